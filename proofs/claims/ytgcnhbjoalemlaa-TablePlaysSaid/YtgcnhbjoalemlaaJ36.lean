/- Several texts of this proof in one file, each in its own namespace. -/
import Derived.Test.YtgcnhbjoalemlaaTabJ
import Derived.Test.YtgcnhbjoalemlaaJ30
import Derived.Test.YtgcnhbjoalemlaaShelf
import Derived.Shelf.GgSortFunc.Tiny
import Derived.Test.YtgcnhbjoalemlaaJ34
import Derived.Test.YtgcnhbjoalemlaaTabS
/- Layer 20: the sort of a table's keys. (Written by wip/tools/mkTabL.py out of XSorK, XSorL, XSorM, XAutQ.) -/
set_option linter.unusedVariables false
set_option linter.unusedSimpArgs false
set_option maxRecDepth 100000
namespace Go.Proofs.Ytgcnhbjoalemlaa
open Go.ChangeShapes Go.WideShapes Go.ChangeAt Go.RowKit Go.Mtl Go.Lib
namespace Tb
open Au (KO encK ltK ltK_swo encK_len RowK RowK.at5 RowK.keep RowK.keepB RowK.swap RowK.put bar_put At5 less_is below_two key_kind encK_one swaps sorted_world key_kind2 list_kind sw_9 bitLen_small whole)
open Go.Shelf
open Go.Sort hiding Below
open AutM (Ke)
theorem few_perm {ks ls : List Ke} (h : ks.Perm ls) (hl : ls.length ≤ 1) : ks = ls := by
  match ls, hl with
  | [], _ => exact List.perm_nil.1 h
  | [k], _ => exact List.perm_singleton.1 h
theorem list_info : ∃ i, Try.prog.info? 48 = some i ∧ i.desc = .slice 37 := ⟨_, rfl, by kernel_rfl⟩
theorem key_info2 : ∃ i, Try.prog.info? 37 = some i := ⟨_, rfl⟩
theorem grow_below (w : World) (os : Array Obj) : Below w.heap.size w (Sort.grow w os) :=
  ⟨rfl, rfl, rfl, by simp [Sort.grow], fun k hk => by simp [Sort.grow, Array.getElem?_append_left hk]⟩
theorem sw_1 : Try.prog.funcs.findIdx? (fun x => x.name == "internal/reflectlite" ++ ".Swapper$" ++ toString 1) = some 74 := by kernel_rfl
theorem sw_2 : Try.prog.funcs.findIdx? (fun x => x.name == "internal/reflectlite" ++ ".Swapper$" ++ toString 2) = some 75 := by kernel_rfl
theorem sort_few (p : Option Addr) (n c : Nat) (h : n ≤ 1) (lf : Fn) (la lb : Array Value) (w : World) :
    Calls Try.prog 57 #[.iface 48 (.slice p n c), .func lf la lb] w fun e w' => e = .returned (.tuple #[]) ∧ Below w.heap.size w w' := by
  obtain ⟨i, hi, hd⟩ := list_info
  obtain ⟨ie, hie⟩ := key_info2
  have key : ∀ f, Try.prog.funcs.findIdx? (·.name == "internal/reflectlite" ++ ".Swapper$" ++ toString (swapperK n ie 25)) = some f → Calls Try.prog 57 #[.iface 48 (.slice p n c), .func lf la lb] w fun e w' => e = .returned (.tuple #[]) ∧ Below w.heap.size w w' := by
    intro f hf
    refine (Any.sort_Slice_tiny Try.laysGg6 48 37 i ie hi hd (by kernel_rfl) hie 25 (fun w => by kernel_rfl) p n c h f hf lf la lb w).mono ?_
    rintro e w' ⟨rfl, os, rfl⟩
    exact ⟨rfl, grow_below _ _⟩
  rcases Nat.eq_zero_or_pos n with h0 | h0
  · subst h0
    exact key 74 sw_1
  · obtain rfl : n = 1 := by omega
    exact key 75 sw_2
theorem own_later {W W' : World} {base : Nat} {e : TypeId} {size : Nat} {v : Value} {k : Nat} {xs : List Value} (h : W.ownsRow base e size v k xs) (hb : Below W.heap.size W W') : W'.ownsRow base e size v k xs :=
  h.kept (row := none) ⟨hb.1, hb.2, hb.3, hb.4, fun k hk _ => hb.5 k hk⟩ (by
    rcases h.2 with ⟨rfl, _⟩ | ⟨g, cap, cur, rfl, _⟩
    · exact .inl rfl
    · exact .inr (by simp [Value.ownBlock]))
set_option maxHeartbeats 2000000 in
theorem less_row {blk cb m n cap : Nat} {W : World} {d : Array KO} (H : RowK blk cb m n cap W d) (hn : n < 4611686018427387904) (i j : Nat) (hi : i < n) (hj : j < n) :
    Calls Try.prog 58 (#[.int .i64 i, .int .i64 j] ++ #[.pointer (some ⟨cb, 0, none⟩)]) W fun e w' => e = .returned (.bool (ltK d[i]! d[j]!)) ∧ Below W.heap.size W w' := by
  have Hi := Lib.hid hi
  have Hj := Lib.hid hj
  have HR := Lib.hid H
  have HL : Hid (∀ W, Calls Try.prog 59 #[.agg (Ky.kyc d[i]!.1.a d[i]!.1.b d[i]!.1.p d[i]!.1.q d[i]!.1.r), .agg (Ky.kyc d[j]!.1.a d[j]!.1.b d[j]!.1.p d[j]!.1.q d[j]!.1.r)] W fun e w' => e = .returned (.bool (ltK d[i]! d[j]!)) ∧ Below W.heap.size W w') := fun W =>
    Ky.less_any _ _ _ _ _ _ _ _ _ _ d[i]!.2.p d[i]!.2.q d[j]!.2.p d[j]!.2.q _ (less_is _ _) W
  clear H
  go_enter Try.func58, Try.ntmps58
  go_wp2_with fail
  refine wp_region_held_drew (S := fun w' => RowK blk cb m n cap w' d ∧ Below W.heap.size W w') (by kernel_rfl) (⟨HR.out.keepB (Below.refl _ W).drew, (Below.refl _ W).drew⟩) (fun hH => ?_)
  refine wpAnyH_take (i := 0) (oi := ⟨some 6, _, _, _, _, _⟩) (v := ?v1) rfl (by kernel_rfl) (by kernel_rfl) (by kernel_rfl) (fun _ _ _ h => h) (Or.inl ⟨rfl, ?c1⟩) hH ?r1
  case c1 => (intro w' hS; have cb := hS.1.box; go_simp; (try with_reducible rfl))
  try simp only [Act.put, List.setIfInBounds_toArray, List.set_cons_zero, List.set_cons_succ]
  refine wpAnyH_take (i := 1) (oi := ⟨some 7, _, _, _, _, _⟩) (v := ?v2) rfl (by kernel_rfl) (by kernel_rfl) (by kernel_rfl) (fun _ _ _ h => h) (Or.inl ⟨rfl, ?c2⟩) hH ?r2
  case c2 => (intro w' _; go_simp; (try with_reducible rfl))
  try simp only [Act.put, List.setIfInBounds_toArray, List.set_cons_zero, List.set_cons_succ]
  refine wpAnyH_take (i := 2) (oi := ⟨some 8, _, _, _, _, _⟩) (v := ?v3) rfl (by kernel_rfl) (by kernel_rfl) (by kernel_rfl) (fun _ _ _ h => h) (Or.inl ⟨rfl, ?c3⟩) hH ?r3
  case c3 => (intro w' hS; have hv := Hi.out; go_simp; (try with_reducible rfl))
  try simp only [Act.put, List.setIfInBounds_toArray, List.set_cons_zero, List.set_cons_succ]
  refine wpAnyH_take (i := 3) (oi := ⟨some 9, _, _, _, _, _⟩) (v := ?v4) rfl (by kernel_rfl) (by kernel_rfl) (by kernel_rfl) (fun _ _ _ h => h) (Or.inl ⟨rfl, ?c4⟩) hH ?r4
  case c4 => (intro w' hS; obtain ⟨x0, x1, x2, x3, x4⟩ := hS.1.at5 i Hi.out; go_simp; (try with_reducible rfl))
  try simp only [Act.put, List.setIfInBounds_toArray, List.set_cons_zero, List.set_cons_succ]
  refine wpAnyH_take (i := 4) (oi := ⟨some 10, _, _, _, _, _⟩) (v := ?v5) rfl (by kernel_rfl) (by kernel_rfl) (by kernel_rfl) (fun _ _ _ h => h) (Or.inl ⟨rfl, ?c5⟩) hH ?r5
  case c5 => (intro w' hS; have cb := hS.1.box; go_simp; (try with_reducible rfl))
  try simp only [Act.put, List.setIfInBounds_toArray, List.set_cons_zero, List.set_cons_succ]
  refine wpAnyH_take (i := 5) (oi := ⟨some 11, _, _, _, _, _⟩) (v := ?v6) rfl (by kernel_rfl) (by kernel_rfl) (by kernel_rfl) (fun _ _ _ h => h) (Or.inl ⟨rfl, ?c6⟩) hH ?r6
  case c6 => (intro w' _; go_simp; (try with_reducible rfl))
  try simp only [Act.put, List.setIfInBounds_toArray, List.set_cons_zero, List.set_cons_succ]
  refine wpAnyH_take (i := 6) (oi := ⟨some 12, _, _, _, _, _⟩) (v := ?v7) rfl (by kernel_rfl) (by kernel_rfl) (by kernel_rfl) (fun _ _ _ h => h) (Or.inl ⟨rfl, ?c7⟩) hH ?r7
  case c7 => (intro w' hS; have hv := Hj.out; go_simp; (try with_reducible rfl))
  try simp only [Act.put, List.setIfInBounds_toArray, List.set_cons_zero, List.set_cons_succ]
  refine wpAnyH_take (i := 7) (oi := ⟨some 13, _, _, _, _, _⟩) (v := ?v8) rfl (by kernel_rfl) (by kernel_rfl) (by kernel_rfl) (fun _ _ _ h => h) (Or.inl ⟨rfl, ?c8⟩) hH ?r8
  case c8 => (intro w' hS; obtain ⟨x0, x1, x2, x3, x4⟩ := hS.1.at5 j Hj.out; go_simp; (try with_reducible rfl))
  try simp only [Act.put, List.setIfInBounds_toArray, List.set_cons_zero, List.set_cons_succ]
  refine wpAnyH_ready (rs := [8]) (by kernel_rfl) (by simp) (AllReadyH.cons rfl (fun K hK => ?_) (AllReadyH.nil))
  go_simp
  go_at_call 59
  refine (HL.out _).mono ?_
  rintro e w2 ⟨rfl, hbp⟩
  refine hK.out _ _ (⟨hH.1.keepB hbp, below_two hH.2 hbp⟩) (fun hH => ?_)
  clear hK K
  clear hbp
  try simp only [Act.put, List.setIfInBounds_toArray, List.set_cons_zero, List.set_cons_succ]
  refine wpAnyH_take (i := 9) (oi := ⟨some 5, _, _, _, _, _⟩) (v := ?v9) rfl (by kernel_rfl) (by kernel_rfl) (by kernel_rfl) (fun _ _ _ h => h) (Or.inl ⟨rfl, ?c9⟩) hH ?r9
  case c9 => (intro w' _; go_simp; (try with_reducible rfl))
  try simp only [Act.put, List.setIfInBounds_toArray, List.set_cons_zero, List.set_cons_succ]
  refine wpAnyH_done (by kernel_rfl) ?_ _
  have HB := Lib.hid hH.2
  clear hH
  go_wp2_with fail
  go_ret
  exact ⟨rfl, HB.out⟩
theorem row_sortK (blk cb m n cap : Nat) (hne : cb ≠ blk) (hbm : blk < m) (hn : n < 4611686018427387904) :
    SortK Try.prog (RowK blk cb m n cap) blk m n ltK 58 #[.pointer (some ⟨cb, 0, none⟩)] 82 #[.slice (some ⟨blk, 0, none⟩) n cap, typeHandle Try.prog 37] where
  small := hn
  size := fun H => H.size
  bm := hbm
  at_ := fun H => H.le
  keep := fun H h hs => H.keep h hs
  enters := fun args w => rfl
  less := fun i j H hi hj => less_row H hn i j hi hj
  swap := fun {W d} i j H hi hj => ⟨_, swaps blk n cap W d H.holds H.size i j hi hj, (H.swap hne i j hi hj).1, (H.swap hne i j hi hj).2⟩
theorem row_blind (blk cb m n cap : Nat) (hne : cb ≠ blk) (hn : n < 4611686018427387904) :
    So.Blind (RowK blk cb m n cap) blk n #[.pointer (some ⟨cb, 0, none⟩)] #[.slice (some ⟨blk, 0, none⟩) n cap, typeHandle Try.prog 37] 58 82 where
  brk := fun {W d} lo hi H h1 h2 => by
    have hs := H.size
    subst hs
    refine (Any.breakPatterns_func_cells_w (P := Try.prog) { Try.laysGg6 with } encK 5 encK_len _ _ _ _ _ blk 0 lo hi d W (swaps blk d.size cap) H.holds (Nat.lt_of_lt_of_le H.bm H.le) h1 h2 hn).mono ?_
    rintro e w' ⟨rfl, q, os, rfl⟩
    exact ⟨rfl, sorted_world H hne (breakPatterns_holds d lo hi h1 h2).1 q os⟩
  rev := fun {W d} lo hi H h1 h2 => by
    have hs := H.size
    subst hs
    refine (Any.reverseRange_func_cells_w (P := Try.prog) { Try.laysGg6 with } encK 5 encK_len _ _ _ _ _ blk 0 lo hi d W (swaps blk d.size cap) H.holds (Nat.lt_of_lt_of_le H.bm H.le) h1 h2 hn).mono ?_
    rintro e w' ⟨rfl, q, os, rfl⟩
    exact ⟨rfl, sorted_world H hne (reverseRange_holds d lo hi h1 h2).1 q os⟩
theorem sort_keys {blk cb n cap : Nat} {W : World} {d : Array KO} (H : RowK blk cb W.heap.size n cap W d) (hne : cb ≠ blk) (h2 : 2 ≤ n) (hn : n < 4611686018427387904) :
    Calls Try.prog 57 #[.iface 48 (.slice (some ⟨blk, 0, none⟩) n cap), .func (.func 58) #[] #[.pointer (some ⟨cb, 0, none⟩)]] W fun e w' => e = .returned (.tuple #[]) ∧
      ∃ d' : Array KO, RowK blk cb W.heap.size n cap w' d' ∧ Bar blk W w' ∧ d'.toList.Perm d.toList ∧ SortedIn ltK 0 n d' := by
  obtain ⟨i, hi, hd⟩ := list_kind
  obtain ⟨ie, hie, hp, hby⟩ := key_kind2
  have hK : swapperK n ie 25 = 9 := by
    unfold swapperK
    rw [if_neg (by simp; omega), if_neg (by simp; omega)]
    simp [hp, hby]
  have hbl := H.bm
  refine Any.sort_Slice_of_pdq Try.laysGg6 48 37 i ie hi hd (by kernel_rfl) hie 25 (fun w => by kernel_rfl) (some ⟨blk, 0, none⟩) n cap hn 82 (by rw [hK]; exact sw_9) _ _ _ W _ ?_
  have hsb : sliceBound Try.prog 37 ie 25 (some ⟨blk, 0, none⟩) n cap = #[.slice (some ⟨blk, 0, none⟩) n cap, typeHandle Try.prog 37] := by
    unfold sliceBound
    rw [hK, if_neg (by omega)]
  rw [hsb]
  obtain ⟨W1, hW1⟩ : ∃ W1, W1 = sliceWorld Try.prog Try.laysGg6_ren 48 (some ⟨blk, 0, none⟩) n cap W := ⟨_, rfl⟩
  have hb1 : Below W.heap.size W W1 := by rw [hW1]; unfold sliceWorld; exact ((Below.refl _ W).alloc (Nat.le_refl _) _).alloc (by simp) _
  rw [← hW1]
  have H1 : RowK blk cb W.heap.size n cap W1 d := H.keep (fun j hj => hb1.block j hj) hb1.size
  refine (So.pdq_any ltK_swo (row_sortK blk cb W.heap.size n cap hne hbl hn) (row_blind blk cb W.heap.size n cap hne hn) (n + 1) W1 d 0 n (Lib.bitLen n) (by omega) H1 (by omega) (Nat.le_refl _) (bitLen_small n) (.inl rfl)).mono ?_
  rintro e w' ⟨rfl, ha, hbar⟩
  obtain ⟨hP, hS⟩ := pdq_holds insertionSort_holds heapSort_holds partialInsertionSort_holds (partition_holds ltK) (partitionEqual_holds ltK) reverseRange_holds ltK_swo d 0 n (Lib.bitLen n) true true (by omega) (by rw [H.size]; exact Nat.le_refl _) (.inl rfl)
  refine ⟨rfl, _, ha, (Bar.of_below hb1).trans hbar, ?_, hS⟩
  have hp3 := hP.2.2
  rw [whole d n H.size, whole _ n (hP.1.trans H.size)] at hp3
  exact hp3
end Tb
end Go.Proofs.Ytgcnhbjoalemlaa
/- Layer 20: the program's sortedKeys. (Written by wip/tools/mkTabN.py.) -/
set_option linter.unusedVariables false
set_option linter.unusedSimpArgs false
set_option maxRecDepth 100000
namespace Go.Proofs.Ytgcnhbjoalemlaa
open Go.ChangeShapes Go.WideShapes Go.ChangeAt Go.RowKit Go.Mtl Go.Lib
namespace Tb
open Au (KO encK ltK ltK_swo encK_len RowK RowK.at5 RowK.keep RowK.keepB RowK.swap RowK.put bar_put At5 less_is below_two)
open TabM
open MemM (Ms)
open Me (ptr)
open Go.Shelf
open Go.Sort hiding Below
/-- A slice that reads as these keys, in a block at or behind base. -/
def Kys (W : World) (base : Nat) (p : Option Addr) (ks : List AutM.Ke) : Prop := 0 < ks.length → ∃ g, p = some ⟨g, 0, none⟩ ∧ base ≤ g ∧ g < W.heap.size ∧ ∀ i k, ks[i]? = some k → At5 W g i k
theorem kcs_get (ks : List AutM.Ke) (i u : Nat) (k : AutM.Ke) (h : ks[i]? = some k) (hu : u < 5) : (kcs ks)[i * 5 + u]? = (k5 k)[u]? := by
  induction ks generalizing i with
  | nil => cases h
  | cons x ks ih =>
    have e : kcs (x :: ks) = k5 x ++ kcs ks := rfl
    rw [e]
    cases i with
    | zero =>
      obtain rfl : x = k := Option.some.inj h
      rw [Nat.zero_mul, Nat.zero_add, List.getElem?_append_left (by show u < 5; exact hu)]
    | succ i =>
      rw [List.getElem?_append_right (by show 5 ≤ (i + 1) * 5 + u; omega)]
      rw [show (i + 1) * 5 + u - (k5 x).length = i * 5 + u by show (i + 1) * 5 + u - 5 = i * 5 + u; omega]
      exact ih i h
theorem row_at {W : World} {g cap n : Nat} {cur : Array Value} {t : TypeId} {ks : List AutM.Ke} (hb : W.heap[g]? = some (.cells cur t (0, 0))) (ht : cur.toList.take (n * 5) = kcs ks) (hn : ks.length = n) (i u : Nat) (k : AutM.Ke) (h : ks[i]? = some k) (hu : u < 5) : W.cell? ⟨g, i * 5 + u, none⟩ = (k5 k)[u]? := by
  have hi : i < ks.length := (List.getElem?_eq_some_iff.1 h).1
  have h1 := kcs_get ks i u k h hu
  rw [← ht, List.getElem?_take_of_lt (by omega)] at h1
  rw [cell_of_row W g _ _ _ _ hb, ← h1]
  simp
theorem at5_of {W : World} {g i : Nat} {k : AutM.Ke} (h : ∀ u, u < 5 → W.cell? ⟨g, i * 5 + u, none⟩ = (k5 k)[u]?) : At5 W g i k :=
  ⟨h 0 (by omega), h 1 (by omega), h 2 (by omega), h 3 (by omega), h 4 (by omega)⟩
/-- What a row of the call's own gives. -/
theorem own_kys {W : World} {base n : Nat} {p : Option Addr} {c : Nat} {ks : List AutM.Ke} (h : W.ownsRow base 37 5 (.slice p n c) n (kcs ks)) (hn : ks.length = n) : Kys W base p ks := by
  intro hp
  rcases h.2 with ⟨_, h0⟩ | ⟨g, cap, cur, e, hbg, hb, _, _, _, ht⟩
  · omega
  · injection e with e1 _ _
    subst e1
    exact ⟨g, rfl, hbg, (Array.getElem?_eq_some_iff.1 hb).1, fun i k hk => at5_of fun u hu => row_at (cap := cap) hb ht hn i u k hk hu⟩
theorem lift_ok (ks : List AutM.Ke) (h : ∀ k ∈ ks, k.Ok) : ∃ d : List KO, d.map (·.1) = ks := by
  induction ks with
  | nil => exact ⟨[], rfl⟩
  | cons k ks ih =>
    obtain ⟨d, hd⟩ := ih fun x hx => h x (List.mem_cons_of_mem _ hx)
    exact ⟨⟨k, h k List.mem_cons_self⟩ :: d, by rw [List.map_cons, hd]⟩
theorem holds_own {W : World} {g cap n : Nat} {cur : Array Value} {t : TypeId} {d : List KO} (hb : W.heap[g]? = some (.cells cur t (0, 0))) (ht : cur.toList.take (n * 5) = kcs (d.map (·.1))) (hn : d.length = n) : HoldsK encK 5 W g 0 d.toArray := by
  intro q hq
  have hq2 : q < d.toArray.size * 5 := by simpa using hq
  have hq3 : q < d.length * 5 := by simpa using hq2
  have hi : q / 5 < d.length := by omega
  rw [get_flatK encK 5 d.toArray q hq2]
  refine ⟨?_, by simp [World.frozen?, hb]⟩
  have h1 : (d.map (·.1))[q / 5]? = some d[q / 5].1 := by rw [List.getElem?_map, List.getElem?_eq_getElem hi]; rfl
  have h2 := row_at (cap := cap) hb ht (by rw [List.length_map]; exact hn) (q / 5) (q % 5) _ h1 (by omega)
  rw [show q / 5 * 5 + q % 5 = q by omega] at h2
  rw [Nat.zero_add, h2]
  have e : d.toArray[q / 5]! = d[q / 5] := by simp [hi]
  rw [e]
  have hm : q % 5 < 5 := by omega
  obtain h | h | h | h | h : q % 5 = 0 ∨ q % 5 = 1 ∨ q % 5 = 2 ∨ q % 5 = 3 ∨ q % 5 = 4 := by omega
  all_goals rw [h]; rfl
theorem sorted_keys {fs : List Fl} {n : Nat} {d d' : Array KO} {ks : List AutM.Ke} (ho : Oks fs) (hk : ks.Perm (fs.map (·.k))) (hd : d.toList.map (·.1) = ks) (hp : d'.toList.Perm d.toList) (hs : SortedIn ltK 0 n d') (hn : d'.size = n) : d'.toList.map (·.1) = fs.map (·.k) := by
  refine keys_of_perm ho (((hp.map (·.1)).trans (by rw [hd])).trans hk) ?_
  rw [List.pairwise_map, List.pairwise_iff_getElem]
  intro i j hi hj hij
  have h := hs i j (Nat.zero_le _) hij (by rw [← hn]; simpa using hj)
  unfold ltK at h
  have hj2 : j < d'.size := by simpa using hj
  have hi2 : i < d'.size := by simpa using hi
  rw [getElem!_pos d' i hi2, getElem!_pos d' j hj2] at h
  simpa using h
/-- All flows of the first j stripes. -/
def flat (ps : Nat → List Fl) (j : Nat) : List Fl := (List.range j).flatMap ps
theorem flat_succ (ps : Nat → List Fl) (j : Nat) : flat ps (j + 1) = flat ps j ++ ps j := by
  unfold flat
  rw [List.range_succ, List.flatMap_append, List.flatMap_cons, List.flatMap_nil, List.append_nil]
theorem part_cons (c : AutM.Ke → Nat) (i : Nat) (f : Fl) (fs : List Fl) : partG c i (f :: fs) = if c f.k = i then f :: partG c i fs else partG c i fs := by
  unfold partG
  rw [List.filter_cons]
  by_cases h : c f.k = i
  · rw [if_pos (by simpa using h), if_pos h]
  · rw [if_neg (by simpa using h), if_neg h]
theorem flat_same (c : AutM.Ke → Nat) (f : Fl) (fs : List Fl) : ∀ n, n ≤ c f.k → flat (fun i => partG c i (f :: fs)) n = flat (fun i => partG c i fs) n := by
  intro n
  induction n with
  | zero => intro _; rfl
  | succ n ih =>
    intro h
    rw [flat_succ, flat_succ, ih (by omega), part_cons, if_neg (by omega)]
theorem flat_cons (c : AutM.Ke → Nat) (f : Fl) (fs : List Fl) : ∀ n, c f.k < n → (flat (fun i => partG c i (f :: fs)) n).Perm (f :: flat (fun i => partG c i fs) n) := by
  intro n
  induction n with
  | zero => intro h; omega
  | succ n ih =>
    intro h
    rw [flat_succ, flat_succ]
    by_cases e : c f.k = n
    · rw [flat_same c f fs n (by omega), part_cons, if_pos e]
      exact List.perm_middle
    · rw [part_cons, if_neg e]
      exact (ih (by omega)).append_right _
/-- The stripes together hold all flows. -/
theorem flat_all (c : AutM.Ke → Nat) (n : Nat) (hc : ∀ k, c k < n) (fs : List Fl) : (flat (fun i => partG c i fs) n).Perm fs := by
  induction fs with
  | nil =>
    have : ∀ n, flat (fun i => partG c i ([] : List Fl)) n = [] := by
      intro n
      induction n with
      | zero => rfl
      | succ n ih => rw [flat_succ, ih]; rfl
    rw [this]
  | cons f fs ih => exact (flat_cons c f fs n (hc f.k)).trans (ih.cons f)
theorem flat_len (ps : Nat → List Fl) {i m : Nat} (h : i < m) : (flat ps i).length + (ps i).length ≤ (flat ps m).length := by
  induction m with
  | zero => omega
  | succ m ih =>
    rw [flat_succ, List.length_append]
    by_cases e : i = m
    · subst e; exact Nat.le_refl _
    · have := ih (by omega); omega
/-- What the loop keeps: the keys of the first j stripes, in a row of the call's own; the box of the list. -/
structure SK (w0 : World) (ps : Nat → List Fl) (j : Nat) (A : Option Addr) (n c : Nat) (ks : List AutM.Ke) (W : World) : Prop where
  box : W.heap[w0.heap.size]? = some (.cells #[.slice A n c] 48 (0, 0))
  row : W.ownsRow (w0.heap.size + 1) 37 5 (.slice A n c) n (kcs ks)
  len : ks.length = n
  perm : ks.Perm ((flat ps j).map (·.k))
  bel : Below w0.heap.size w0 W
set_option maxHeartbeats 4000000 in
theorem sortedKeys_any (w : World) (S off m c : Nat) (M : Nat → Nat) (ps : Nat → List Fl) (gs : List Fl) (hm : m ≤ 4096) (hmc : m ≤ c ∧ c ≤ 4096) (hS : S < w.heap.size) (hrow : ∀ i, i < m → w.cell? ⟨S, off + i, none⟩ = some (.map (some (M i)))) (hmap : ∀ i, i < m → MapAt w (M i) (ps i)) (ho : Oks gs) (hp : (flat ps m).Perm gs) (hl : gs.length ≤ 100000) :
    Calls Try.prog 44 #[.slice (some ⟨S, off, none⟩) m c] w fun e w' => ∃ p c', e = .returned (.slice p gs.length c') ∧ Kys w' w.heap.size p (gs.map (·.k)) ∧ Below w.heap.size w w' := by
  have HROW := Lib.hid hrow
  have HMAP := Lib.hid hmap
  have HS := Lib.hid hS
  have HO := Lib.hid ho
  have HP := Lib.hid hp
  have HL := Lib.hid hl
  have HFL : Hid (∀ i, i < m → (flat ps i).length + (ps i).length ≤ 100000) := fun i hi => by have h1 := flat_len ps hi; have h2 := hp.length_eq; omega
  have h0 : SK w ps 0 none 0 0 [] (w.alloc (.cells #[.slice none 0 0] 48)) := ⟨heap_alloc_new w _, ⟨rfl, .inl ⟨rfl, rfl⟩⟩, rfl, List.Perm.refl _, below_box _ _⟩
  have H0 := Lib.hid h0
  obtain ⟨hmc1, hmc2⟩ := hmc
  clear hrow hmap ho hp hl h0 hS
  go_enter Try.func44, Try.ntmps44
  go_wp2_with fail
  go_loopw [8] (fun vi wr => ∃ (j : Nat) (A : Option Addr) (n c' : Nat) (ks : List AutM.Ke), vi = .int .i64 (j : Int) ∧ j ≤ m ∧ Hid (SK w ps j A n c' ks wr)) (fun vi _ => m - (RowKit.intOf vi).toNat)
  case atStart => exact ⟨0, none, 0, 0, [], rfl, Nat.zero_le _, H0⟩
  case round =>
    clear H0
    obtain ⟨j, A, n, c2, ks, rfl, hj, HK⟩ := hrel
    by_cases h1 : j < m
    · as_aux_lemma =>
        have cm := (HK.out.bel.cell (p := ⟨S, off + j, none⟩) HS.out).trans (HROW.out j h1)
        have HMJ := Lib.hid ((HMAP.out j h1).keep (HK.out.bel.block _ (HMAP.out j h1).lt))
        have HPJ : Hid ((ps j).length ≤ 100000) := by show _ ≤ _; have := HFL.out j h1; omega
        have HN : Hid (n ≤ 1000000) := by show _ ≤ _; have h2 := HFL.out j h1; have h3 := HK.out.perm.length_eq; have h4 := HK.out.len; rw [List.length_map] at h3; omega
        go_wp2_with fail
        clear cm
        refine region_e (S := fun w' => Hid (w'.heap[w.heap.size]? = some (.cells #[.slice A n c2] 48 (0, 0)))) 4 (by kernel_rfl) (Lib.hid HK.out.box) (fun hH => ?_)
        refine anyE_take (i := 0) (oi := ⟨some 12, _, _, _, _, _⟩) (v := ?v1) rfl (by kernel_rfl) (by kernel_rfl) (by kernel_rfl) (by kernel_rfl) (fun _ _ _ h => h) (Or.inl ⟨rfl, ?c1⟩) hH ?r1
        case c1 => (intro w' hS; have y0 := (box_cell hS.out).1; go_simp; (try with_reducible rfl))
        try simp only [Act.put, List.setIfInBounds_toArray, List.set_cons_zero, List.set_cons_succ]
        refine anyE_take (i := 1) (oi := ⟨some 13, _, _, _, _, _⟩) (v := ?v2) rfl (by kernel_rfl) (by kernel_rfl) (by kernel_rfl) (by kernel_rfl) (fun _ _ _ h => h) (Or.inl ⟨rfl, ?c2⟩) hH ?r2
        case c2 => (intro w' _; go_simp; (try with_reducible rfl))
        try simp only [Act.put, List.setIfInBounds_toArray, List.set_cons_zero, List.set_cons_succ]
        refine anyE_ready (rs := [2]) (by kernel_rfl) (by simp) (AllE.cons rfl (fun K hK => ?_) (AllE.nil))
        go_simp
        go_at_call 56
        refine (maps_any (M j) _).mono ?_
        rintro e w2 ⟨rfl, hw2⟩
        have HW2 : Hid (Below wr.heap.size wr w2) := by show Below _ _ _; rw [hw2]; exact (Below.refl _ wr).drew.alloc (Nat.le_refl _) _
        have HC2 : Hid (w2.cell? ⟨wr.heap.size, 0, none⟩ = some (.map (some (M j)))) := by show _ = _; rw [hw2]; exact (Blk.box wr.drew #[.map (some (M j))] 79).cell 0 _ rfl
        clear hw2
        refine hK.out _ _ (Lib.hid ((HW2.out.block _ (Array.getElem?_eq_some_iff.1 HK.out.box).1).trans HK.out.box)) (fun hH => ?_)
        clear hK K
        try simp only [Act.put, List.setIfInBounds_toArray, List.set_cons_zero, List.set_cons_succ]
        refine anyE_ready (rs := [3]) (by kernel_rfl) (by simp) (AllE.cons rfl (fun K hK => ?_) (AllE.nil))
        go_simp
        go_at_call 55
        refine (appended (base := w.heap.size + 1) HC2.out ((HMJ.out).keep (HW2.out.block _ HMJ.out.lt)) HPJ.out (Nat.le_trans (by have := (Array.getElem?_eq_some_iff.1 HK.out.box).1; omega) HW2.out.size) A n c2 ks HK.out.len HN.out (row_keep HK.out.row fun g e => HW2.out.block g (HK.out.row.lt g e).2)).mono ?_
        rintro e w3 ⟨v3, ks3, rfl, hp3, hr3, hb3⟩
        obtain ⟨A3, c3, rfl, -, -⟩ := row_form hr3
        rw [List.length_append, HK.out.len] at hr3
        rw [List.length_append, HK.out.len]
        refine hK.out _ _ (Lib.hid ((hb3.block _ (Nat.lt_succ_self _)).trans hH.out)) (fun hH => ?_)
        clear hK K
        have HP3 := Lib.hid hp3
        have HR3 := Lib.hid hr3
        have HB3 := Lib.hid hb3
        clear hp3 hr3 hb3
        try simp only [Act.put, List.setIfInBounds_toArray, List.set_cons_zero, List.set_cons_succ]
        refine anyE_ready (rs := [4]) (by kernel_rfl) (by simp) (AllE.end_ rfl (fun K hK => ?_))
        have y0 := (box_cell hH.out).1
        have f0 := (box_cell hH.out).2
        go_simp
        clear y0 f0
        refine hK.out _ _ ?_
        clear hK K
        try simp only [Act.put, List.setIfInBounds_toArray, List.set_cons_zero, List.set_cons_succ]
        refine anyE_done (by kernel_rfl) ?_ _
        have HSK : Hid (SK w ps (j + 1) A3 (n + ks3.length) c3 (ks ++ ks3) (w3.setCell ⟨w.heap.size, 0, none⟩ (.slice A3 (n + ks3.length) c3))) := by
          have hb3 : Below w.heap.size w w3 := (HK.out.bel.trans (HW2.out.mono HK.out.bel.size)).trans (HB3.out.mono (Nat.le_succ _))
          refine ⟨box_set _ hH.out, row_keep HR3.out fun g e => Below.heap_setCell _ _ _ _ (fun e2 => by have h5 := (HR3.out.lt g e).1; have e3 : g = w.heap.size := e2; omega), by rw [List.length_append, HK.out.len], ?_, hb3.setCell (p := ⟨w.heap.size, 0, none⟩) (Nat.le_refl _) _⟩
          rw [flat_succ, List.map_append]
          exact HK.out.perm.append HP3.out
        clear hH HP3 HR3 HB3 HC2 HW2 HMJ HPJ HN
        go_wp2_with fail
        go_roundw
        case rel => exact ⟨j + 1, A3, n + ks3.length, c3, ks ++ ks3, by go_num, by omega, HSK⟩
        case measure => simp [RowKit.intOf]; omega
    · obtain rfl : j = m := by omega
      have hng : n = gs.length := by have h3 := HK.out.perm.length_eq; have h4 := HK.out.len; have h5 := HP.out.length_eq; rw [List.length_map] at h3; omega
      have HNG := Lib.hid hng
      have hper : ks.Perm (gs.map (·.k)) := HK.out.perm.trans (HP.out.map _)
      have HPER := Lib.hid hper
      have hbx := (box_cell HK.out.box).1
      clear hper hng
      by_cases h2 : n ≤ 1
      · have hk := few_perm HPER.out (by rw [List.length_map, ← HNG.out]; exact h2)
        have HKY := Lib.hid hk
        clear hk
        go_wp2_with fail
        clear hbx
        go_at_call 57
        refine (sort_few A n c2 h2 _ _ _ _).mono ?_
        rintro e w3 ⟨rfl, hb⟩
        have hbx := (box_cell ((hb.block _ (Array.getElem?_eq_some_iff.1 HK.out.box).1).trans HK.out.box)).1
        have HR3 := Lib.hid (own_later HK.out.row hb)
        have HB3 := Lib.hid (HK.out.bel.trans (hb.mono HK.out.bel.size))
        clear hb
        go_wp2_with fail
        go_ret
        refine ⟨A, c2, by rw [← HNG.out]; rfl, ?_, HB3.out⟩
        have h := own_kys HR3.out HK.out.len
        rw [HKY.out] at h
        intro hp0
        obtain ⟨g, e1, e2, e3, e4⟩ := h hp0
        exact ⟨g, e1, by omega, e3, e4⟩
      · have hok : ∀ k ∈ ks, k.Ok := fun k hk => by
          obtain ⟨f, hf, rfl⟩ := List.mem_map.1 (HPER.out.mem_iff.1 hk)
          exact (HO.out.ok f hf).k
        obtain ⟨d, hd⟩ := lift_ok ks hok
        rcases HK.out.row.2 with ⟨_, h0⟩ | ⟨g, cap, cur, hv, hbg, hgb, hle, hcm, hsz, ht⟩
        · exact absurd h0 (by omega)
        injection hv with hv1 _ hv3
        subst hv1 hv3
        have hgl : g < wr.heap.size := (Array.getElem?_eq_some_iff.1 hgb).1
        have hdn : d.length = n := by rw [← HK.out.len, ← hd, List.length_map]
        have HR : Hid (RowK g w.heap.size wr.heap.size n c2 wr d.toArray) :=
          ⟨holds_own (cap := c2) hgb (by rw [hd]; exact ht) hdn, by simpa using hdn, hbx, Nat.le_refl _, hgl, (Array.getElem?_eq_some_iff.1 HK.out.box).1⟩
        have HS := Lib.hid (sort_keys HR.out (by omega) (by omega) (by have := HNG.out; have := HL.out; omega))
        have HFIN : Hid (∀ w4 (d' : Array KO), RowK g w.heap.size wr.heap.size n c2 w4 d' → Bar g wr w4 → d'.toList.Perm d.toArray.toList → SortedIn ltK 0 n d' →
            Kys w4 w.heap.size (some ⟨g, 0, none⟩) (gs.map (·.k)) ∧ Below w.heap.size w w4) := by
          intro w4 d' hr hbar hper hsrt
          have hks := sorted_keys HO.out HPER.out (d := d.toArray) (by simpa using hd) hper hsrt hr.size
          refine ⟨fun _ => ⟨g, rfl, by omega, by have := hr.le; have := hr.bm; omega, fun i k hk => ?_⟩, HK.out.bel.trans ((So.Bar.to_below hbar (by omega) HK.out.bel.size))⟩
          rw [← hks, List.getElem?_map] at hk
          obtain ⟨x, hx, rfl⟩ := Option.map_eq_some_iff.1 hk
          have hi : i < d'.size := by have := (List.getElem?_eq_some_iff.1 hx).1; simpa using this
          have h5 := hr.at5 i (by rw [← hr.size]; exact hi)
          have e : d'[i]! = x := by
            rw [getElem!_pos d' i hi]
            have := (List.getElem?_eq_some_iff.1 hx).2
            simpa using this
          rw [e] at h5
          exact h5
        clear hok hd hbg hgb hle hcm hsz ht hgl hdn HR
        go_wp2_with fail
        clear hbx
        go_at_call 57
        refine HS.out.mono ?_
        rintro e w4 ⟨rfl, d', hr, hbar, hper, hsrt⟩
        have hbx := hr.box
        obtain ⟨f2, f3⟩ := HFIN.out w4 d' hr hbar hper hsrt
        have F2 := Lib.hid f2
        have F3 := Lib.hid f3
        clear hr hbar hper hsrt f2 f3 HFIN HS
        go_wp2_with fail
        go_ret
        exact ⟨some ⟨g, 0, none⟩, c2, by rw [← HNG.out]; rfl, F2.out, F3.out⟩
end Tb
end Go.Proofs.Ytgcnhbjoalemlaa
/- Layer 20: the program's Keys and All. -/
set_option linter.unusedVariables false
set_option linter.unusedSimpArgs false
set_option maxRecDepth 100000
namespace Go.Proofs.Ytgcnhbjoalemlaa
open Go.ChangeShapes Go.WideShapes Go.ChangeAt Go.RowKit Go.Mtl Go.Lib
namespace Tb
open TabM
open KeyM (isPow)
open MemM (Ms touchS)
open Me (ptr)
section
variable {w : Fw} {W : World} {Om Ot : Nat → Prop} {mb B : Nat} {ms : Ms} {n : Nat} {fs : List Fl}
theorem all_any (H : TM w Om Ot mb B ms n fs W) (hl : fs.length ≤ 100000) : Calls Try.prog 24 #[ptr B] W fun e w' => ∃ p c, e = .returned (.slice p fs.length c) ∧ Kys w' W.heap.size p (fs.map (·.k)) ∧ Below W.heap.size W w' := by
  obtain ⟨⟨S, M, htr⟩, ho, hp⟩ := H.tab
  have hn := H.tab.pos
  have HS := Lib.hid (sortedKeys_any W S 0 n n M (fun i => part n i fs) fs hn.2 ⟨Nat.le_refl _, hn.2⟩ (htr.lt _ htr.os) (fun i hi => by rw [Nat.zero_add]; exact htr.row i hi) htr.map ho (flat_all (sOf n) n (fun k => sOf_lt (by omega) k) fs) hl)
  have c1 := htr.blk.cell 1 _ rfl
  clear H htr ho hp hl
  go_enter Try.func24, Try.ntmps24
  go_wp2_with fail
  go_at_call 44
  refine HS.out.mono ?_
  rintro e w2 ⟨p, c, rfl, hk, hb⟩
  have HK := Lib.hid hk
  have HB := Lib.hid hb
  clear hk hb
  go_wp2_with fail
  go_ret
  exact ⟨p, c, rfl, HK.out, HB.out⟩
theorem keys_arg (H : TM w Om Ot mb B ms n fs W) (t s : Int) (hs : s < 0 ∨ (n : Int) ≤ s) : Calls Try.prog 19 #[ptr B, .int .i64 t, .int .i64 s] W fun e w' => e = .returned (.tuple #[.slice none 0 0, .int .i64 1]) ∧ W = w' := by
  obtain ⟨⟨S, M, htr⟩, ho, hp⟩ := H.tab
  have c1 := htr.blk.cell 1 _ rfl
  by_cases h0 : s < 0
  · have d1 : decide (s < 0) = true := decide_eq_true h0
    clear H htr ho hp hs h0
    go_enter Try.func19, Try.ntmps19
    go_wp2_with fail
    go_ret2
    exact ⟨rfl, rfl⟩
  · have d1 : decide (s < 0) = false := decide_eq_false h0
    have d2 : decide ((n : Int) ≤ s) = true := decide_eq_true (by omega)
    clear H htr ho hp hs h0
    go_enter Try.func19, Try.ntmps19
    go_wp2_with fail
    go_ret2
    exact ⟨rfl, rfl⟩
theorem keys_no (H : TM w Om Ot mb B ms n fs W) (t : Int) (i : Nat) (hi : i < n) (hh : heldB ms t (i : Int) = false) : Calls Try.prog 19 #[ptr B, .int .i64 t, .int .i64 (i : Int)] W fun e w' => e = .returned (.tuple #[.slice none 0 0, .int .i64 13]) ∧ W = w' := by
  have HH := Lib.hid (holds_any H t (i : Int))
  rw [hh] at HH
  obtain ⟨⟨S, M, htr⟩, ho, hp⟩ := H.tab
  have hn := H.tab.pos
  have c1 := htr.blk.cell 1 _ rfl
  have d1 : decide ((i : Int) < 0) = false := decide_eq_false (by omega)
  have d2 : decide ((n : Int) ≤ (i : Int)) = false := decide_eq_false (by omega)
  clear H htr ho hp hh
  go_enter Try.func19, Try.ntmps19
  go_wp2_with fail
  go_at_call 42
  refine HH.out.mono ?_
  rintro e w2 ⟨rfl, rfl⟩
  go_wp2_with fail
  go_ret2
  exact ⟨rfl, rfl⟩
set_option maxHeartbeats 1000000 in
theorem keys_yes (H : TM w Om Ot mb B ms n fs W) (hml : ms.ls.length ≤ 1000000000000) (hl : fs.length ≤ 100000) (t : Int) (i : Nat) (hi : i < n) (hh : heldB ms t (i : Int) = true) :
    Calls Try.prog 19 #[ptr B, .int .i64 t, .int .i64 (i : Int)] W fun e w' => ∃ p c Om', e = .returned (.tuple #[.slice p (part n i fs).length c, .int .i64 0]) ∧ Kys w' W.heap.size p ((part n i fs).map (·.k)) ∧ TM w Om' Ot mb B (touchS ms t 5 (i : Int)) n fs w' := by
  have HH := Lib.hid (holds_any H t (i : Int))
  rw [hh] at HH
  have H1 := Lib.hid H
  obtain ⟨⟨S, M, htr⟩, ho, hp⟩ := H.tab
  have hn := H.tab.pos
  have HPL : Hid ((part n i fs).length ≤ 100000) := Nat.le_trans (List.length_filter_le _ _) hl
  have HOK := Lib.hid ho
  have HML := Lib.hid hml
  have c0 := htr.blk.cell 0 _ rfl
  have c1 := htr.blk.cell 1 _ rfl
  have d1 : decide ((i : Int) < 0) = false := decide_eq_false (by omega)
  have d2 : decide ((n : Int) ≤ (i : Int)) = false := decide_eq_false (by omega)
  clear H htr ho hp hh hl hml
  go_enter Try.func19, Try.ntmps19
  go_wp2_with fail
  go_at_call 42
  refine HH.out.mono ?_
  rintro e w2 ⟨rfl, rfl⟩
  go_wp2_with fail
  clear c0 c1
  go_at_call 43
  refine (Me.read_any H1.out.mem t (i : Int) HML.out).mono ?_
  rintro e w3 ⟨Om2, rfl, hp, ho, hO⟩
  have H3 := Lib.hid (H1.out.left hp ho hO)
  have HSZ := Lib.hid ho.size
  clear hp ho hO H1
  obtain ⟨⟨S, M, htr⟩, _⟩ := H3.out.tab
  have c1 := htr.blk.cell 1 _ rfl
  have HTR := Lib.hid htr
  clear htr
  go_wp2_with fail
  clear c1
  go_at_call 44
  refine (sortedKeys_any w3 S i 1 (n - i) (fun _ => M i) (fun _ => part n i fs) (part n i fs) (by omega) ⟨by omega, by omega⟩ (HTR.out.lt _ HTR.out.os) (fun j hj => by obtain rfl : j = 0 := (by omega); rw [Nat.add_zero]; exact HTR.out.row i hi) (fun _ _ => HTR.out.map i hi) (oks_part HOK.out _ _) (by rw [flat_succ]; exact List.Perm.refl _) HPL.out).mono ?_
  rintro e w4 ⟨p, c, rfl, hk, hb⟩
  have HK := Lib.hid hk
  have H4 := Lib.hid (H3.out.next hb)
  clear hk hb H3 HTR
  go_wp2_with fail
  go_ret2
  refine ⟨p, c, Om2, rfl, fun h0 => ?_, H4.out⟩
  obtain ⟨g, e1, e2, e3, e4⟩ := HK.out h0
  exact ⟨g, e1, Nat.le_trans HSZ.out e2, e3, e4⟩
end
end Tb
end Go.Proofs.Ytgcnhbjoalemlaa
/- Layer 20: the reference's New, Keys, All, Same. (Written by wip/tools/mkTabT.py.) -/
set_option linter.unusedVariables false
set_option linter.unusedSimpArgs false
set_option maxRecDepth 100000
namespace Go.Proofs.Ytgcnhbjoalemlaa
open Go.ChangeShapes Go.WideShapes Go.ChangeAt Go.RowKit Go.Mtl Go.Lib
namespace Tb
open TabM
open KeyM (isPow hashN strN)
open MemM (Ms holdV touchS)
open Me (ptr)
open Au (At5)
namespace R
/-- Keys in a row of the call's own. -/
structure KR (w0 : World) (ks : List AutM.Ke) (A : Option Addr) (c n : Nat) (W : World) : Prop where
  row : W.ownsRow w0.heap.size 37 5 (.slice A n c) n (kcs ks)
  len : ks.length = n
  bel : Below w0.heap.size w0 W
section
variable {w0 W w' : World} {ks : List AutM.Ke} {A : Option Addr} {c n : Nat}
theorem KR.row0 (H : KR w0 ks A c n W) : W.ownsRow 0 37 5 (.slice A n c) n (kcs ks) := row_base H.row fun _ _ => Nat.zero_le _
theorem KR.next (H : KR w0 ks A c n W) (hb : Below W.heap.size W w') : KR w0 ks A c n w' := ⟨row_keep H.row fun g e => hb.block g (H.row.lt g e).2, H.len, H.bel.trans (hb.mono H.bel.size)⟩
theorem KR.push (H : KR w0 ks A c n W) {k : AutM.Ke} {A' : Option Addr} {c' : Nat} (h1 : w'.ownsRow 0 37 5 (.slice A' (n + 1) c') (n + 1) (kcs ks ++ k5 k)) (h2 : W.grownBy w' (Value.slice A n c).ownBlock) (h3 : (Value.slice A' (n + 1) c').ownBlock = (Value.slice A n c).ownBlock ∨ ∃ g, (Value.slice A' (n + 1) c').ownBlock = some g ∧ W.heap.size ≤ g ∧ g < w'.heap.size) :
    KR w0 (ks ++ [k]) A' c' (n + 1) w' := by
  refine ⟨?_, by rw [List.length_append, H.len]; rfl, H.bel.grown h2 H.bel.size fun g e => (H.row.lt g e).1⟩
  rw [kcs_add]
  refine row_base h1 fun g e => ?_
  rcases h3 with h3 | ⟨g', h3, h4, -⟩
  · rw [h3] at e; exact (H.row.lt g e).1
  · rw [h3] at e; obtain rfl := Option.some.inj e; exact Nat.le_trans H.bel.size h4
theorem KR.kys (H : KR w0 ks A c n W) : Kys W w0.heap.size A ks := own_kys H.row H.len
theorem KR.start (w : World) : KR w [] (some ⟨w.heap.size, 0, none⟩) 0 0 (w.alloc (.cells #[] 37)) := ⟨World.ownsRow_made w #[] 0 (Nat.le_refl _) (by unfold maxLen; omega) (by simp), rfl, below_box _ _⟩
end
theorem take_one {fs : List Fl} {j : Nat} {f : Fl} (h : fs[j]? = some f) : fs.take (j + 1) = fs.take j ++ [f] := by
  obtain ⟨h1, h2⟩ := List.getElem?_eq_some_iff.1 h
  rw [List.take_succ_eq_append_getElem h1, h2]
section
variable {w : Fw} {W : World} {Om Ot : Nat → Prop} {mb B : Nat} {ms : Ms} {n : Nat} {fs : List Fl}
set_option maxHeartbeats 2000000 in
theorem all_any (H : RM w Om Ot mb B ms n fs W) (hl : fs.length ≤ 100000) : Calls Try.prog 25 #[ptr B] W fun e w' => ∃ p c, e = .returned (.slice p fs.length c) ∧ Kys w' W.heap.size p (fs.map (·.k)) ∧ Below W.heap.size W w' := by
  obtain ⟨⟨vf, hru⟩, ho, hp⟩ := H.tab
  obtain ⟨A, c, rfl, hlc, hcm⟩ := hru.len
  obtain ⟨L, hL⟩ : ∃ L, fs.length = L := ⟨_, rfl⟩
  rw [hL] at hru hlc hl ⊢
  have HLE := Lib.hid hL
  have HRU := Lib.hid hru
  have H0 := Lib.hid (KR.start W)
  clear H hru ho hp hL
  go_enter Try.func25, Try.ntmps25
  go_wp2_with fail
  go_loopw [3, 4] (fun v3 vi wr => ∃ (j : Nat) (A' : Option Addr) (c' : Nat), v3 = .slice A' j c' ∧ vi = .int .i64 (j : Int) ∧ j ≤ L ∧ Hid (KR W ((fs.take j).map (·.k)) A' c' j wr)) (fun _ vi _ => L - (RowKit.intOf vi).toNat)
  case atStart => exact ⟨0, _, _, rfl, rfl, Nat.zero_le _, H0⟩
  case round =>
    clear H0
    obtain ⟨j, A2, c2', rfl, rfl, hj, HK⟩ := hrel
    by_cases h1 : j < L
    · obtain ⟨f, hf⟩ : ∃ f, fs[j]? = some f := ⟨_, List.getElem?_eq_getElem (by rw [HLE.out]; exact h1)⟩
      obtain ⟨gf, c', ev, -⟩ := HRU.out.flow hf
      injection ev with ev e2 e3
      clear e2 e3
      subst ev
      have HT := Lib.hid (take_one hf)
      have hw := HRU.out.next HK.out.bel
      have c2 := hw.blk.cell 2 _ rfl
      obtain ⟨y0, y1, y2, y3, y4, -, -⟩ := hw.cells_ hf
      clear hf hw
      go_wp2_with (at_builtin; refine wpList_push (j + 1) rfl _ _ 48 37 rfl slice_key (.agg #[.int .u32 0, .int .u32 0, .int .u16 0, .int .u16 0, .int .u8 0]) 5 16 key_info rfl (by omega) (by omega) _ _ _ rfl (HK.out.row0) [.int .u32 (f.k.a : Int), .int .u32 (f.k.b : Int), .int .u16 (f.k.p : Int), .int .u16 (f.k.q : Int), .int .u8 (f.k.r : Int)] rfl (k5_one f.k) rfl rfl (by omega) ?_; intro A' c' w1 h1 h2 h3; have HK2 := Lib.hid (HK.out.push h1.out h2.out h3.out); clear h1 h2 h3)
      clear y0 y1 y2 y3 y4 c2
      try go_wp2_with fail
      go_roundw
      case rel => exact ⟨j + 1, A', c', rfl, by go_num, by omega, by rw [HT.out, List.map_append]; exact HK2⟩
      case measure => simp [RowKit.intOf]; omega
    · obtain rfl : j = L := by omega
      have c2 := (HRU.out.next HK.out.bel).blk.cell 2 _ rfl
      go_wp2_with fail
      go_ret
      have h := HK.out.kys
      rw [List.take_of_length_le (by rw [HLE.out]; exact Nat.le_refl _)] at h
      exact ⟨A2, c2', rfl, h, HK.out.bel⟩
theorem keys_bad (H : RM w Om Ot mb B ms n fs W) (t s : Int) (e : Int) (he : mayV ms n t s = e) (h0 : e ≠ 0) : Calls Try.prog 20 #[ptr B, .int .i64 t, .int .i64 s] W fun x w' => x = .returned (.tuple #[.slice none 0 0, .int .i64 e]) ∧ W = w' := by
  have HM := Lib.hid (may_any H t s)
  rw [he] at HM
  have d1 : (e != 0) = true := by simpa using h0
  clear H he h0
  go_enter Try.func20, Try.ntmps20
  go_wp2_with fail
  go_at_call 38
  refine HM.out.mono ?_
  rintro x w2 ⟨rfl, rfl⟩
  go_wp2_with fail
  go_ret2
  exact ⟨rfl, rfl⟩
theorem part_take {fs : List Fl} {j : Nat} {f : Fl} (h : fs[j]? = some f) (c : AutM.Ke → Nat) (i : Nat) : partG c i (fs.take (j + 1)) = if c f.k = i then partG c i (fs.take j) ++ [f] else partG c i (fs.take j) := by
  rw [take_one h]
  unfold partG
  rw [List.filter_append, List.filter_cons]
  by_cases e : c f.k = i
  · rw [if_pos (by simpa using e), if_pos e]; rfl
  · rw [if_neg (by simpa using e), if_neg e]; simp
set_option maxHeartbeats 4000000 in
theorem keys_yes (H : RM w Om Ot mb B ms n fs W) (hml : ms.ls.length ≤ 1000000000000) (hl : fs.length ≤ 100000) (t : Int) (i : Nat) (hi : i < n) (hh : heldB ms t (i : Int) = true) :
    Calls Try.prog 20 #[ptr B, .int .i64 t, .int .i64 (i : Int)] W fun e w' => ∃ p c Om', e = .returned (.tuple #[.slice p (part n i fs).length c, .int .i64 0]) ∧ Kys w' W.heap.size p ((part n i fs).map (·.k)) ∧ RM w Om' Ot mb B (touchS ms t 5 (i : Int)) n fs w' := by
  have HM := Lib.hid (may_any H t (i : Int))
  rw [mayV_at hi true hh] at HM
  have H1 := Lib.hid H
  have HML := Lib.hid hml
  obtain ⟨⟨vf0, hru0⟩, _⟩ := H.tab
  have c0 := hru0.blk.cell 0 _ rfl
  obtain ⟨L, hL⟩ : ∃ L, fs.length = L := ⟨_, rfl⟩
  have HLE := Lib.hid hL
  rw [hL] at hl
  clear H hh hml hL hru0
  go_enter Try.func20, Try.ntmps20
  go_wp2_with fail
  go_at_call 38
  refine HM.out.mono ?_
  rintro x w2 ⟨rfl, rfl⟩
  go_wp2_with fail
  clear c0
  go_at_call 40
  refine (Me.refTouch_any H1.out.mem t 5 (i : Int) HML.out).mono ?_
  rintro e w3 ⟨Om2, rfl, hp, ho, hO⟩
  have H3 := Lib.hid (H1.out.left hp ho hO)
  have HSZ := Lib.hid ho.size
  clear hp ho hO H1 HM
  obtain ⟨⟨vf, hru⟩, ho, -⟩ := H3.out.tab
  obtain ⟨A, c, rfl, hlc, hcm⟩ := hru.len
  rw [HLE.out] at hru hlc
  have HRU := Lib.hid hru
  have HOK := Lib.hid ho
  have H0 := Lib.hid (KR.start w3)
  clear hru ho
  go_wp2_with fail
  go_loopw [9, 10] (fun v9 vi wr => ∃ (j m : Nat) (A' : Option Addr) (c' : Nat), v9 = .slice A' m c' ∧ vi = .int .i64 (j : Int) ∧ j ≤ L ∧ m ≤ j ∧ Hid (KR w3 ((part n i (fs.take j)).map (·.k)) A' c' m wr)) (fun _ vi _ => L - (RowKit.intOf vi).toNat)
  case atStart => exact ⟨0, 0, _, _, rfl, rfl, Nat.zero_le _, Nat.le_refl _, H0⟩
  case round =>
    clear H0
    obtain ⟨j, m, A2, c2', rfl, rfl, hj, hmj, HK⟩ := hrel
    by_cases h1 : j < L
    · obtain ⟨f, hf⟩ : ∃ f, fs[j]? = some f := ⟨_, List.getElem?_eq_getElem (by rw [HLE.out]; exact h1)⟩
      obtain ⟨gf, c', ev, -⟩ := HRU.out.flow hf
      injection ev with ev e2 e3
      clear e2 e3
      subst ev
      have HT := Lib.hid (part_take hf (sOf n) i)
      have hw := HRU.out.next HK.out.bel
      have c2 := hw.blk.cell 2 _ rfl
      obtain ⟨y0, y1, y2, y3, y4, -, -⟩ := hw.cells_ hf
      have HFI := Lib.hid hf
      obtain ⟨s, hs⟩ : ∃ s, sOf n f.k = s := ⟨_, rfl⟩
      have HOF := Lib.hid (of_any (H3.out.next HK.out.bel) f.k (HOK.out.ok f (List.mem_of_getElem? hf)).k s hs)
      rw [hs] at HT
      clear hf hw hs
      go_wp2_with fail
      clear y0 y1 y2 y3 y4 c2
      go_at_call 39
      refine HOF.out.mono ?_
      rintro e w5 ⟨rfl, hb⟩
      replace HK := Lib.hid (HK.out.next hb)
      clear hb HOF
      by_cases hsi : s = i
      · subst hsi
        rw [if_pos rfl] at HT
        have hw := HRU.out.next HK.out.bel
        have c2 := hw.blk.cell 2 _ rfl
        obtain ⟨y0, y1, y2, y3, y4, -, -⟩ := hw.cells_ HFI.out
        clear hw
        go_wp2_with (at_builtin; refine wpList_push (m + 1) rfl _ _ 48 37 rfl slice_key (.agg #[.int .u32 0, .int .u32 0, .int .u16 0, .int .u16 0, .int .u8 0]) 5 16 key_info rfl (by omega) (by omega) _ _ _ rfl (HK.out.row0) [.int .u32 (f.k.a : Int), .int .u32 (f.k.b : Int), .int .u16 (f.k.p : Int), .int .u16 (f.k.q : Int), .int .u8 (f.k.r : Int)] rfl (k5_one f.k) rfl rfl (by omega) ?_; intro A' c' w1 h1 h2 h3; have HK2 := Lib.hid (HK.out.push h1.out h2.out h3.out); clear h1 h2 h3)
        clear y0 y1 y2 y3 y4 c2
        try go_wp2_with fail
        go_roundw
        case rel => exact ⟨j + 1, m + 1, A', c', rfl, by go_num, by omega, by omega, by rw [show part n s (fs.take (j + 1)) = part n s (fs.take j) ++ [f] from HT.out, List.map_append]; exact HK2⟩
        case measure => simp [RowKit.intOf]; omega
      · rw [if_neg hsi] at HT
        have d1 : ((s : Int) == (i : Int)) = false := by simp; omega
        go_wp2_with fail
        go_roundw
        case rel => exact ⟨j + 1, m, A2, c2', rfl, by go_num, by omega, by omega, by rw [show part n i (fs.take (j + 1)) = part n i (fs.take j) from HT.out]; exact HK⟩
        case measure => simp [RowKit.intOf]; omega
    · obtain rfl : j = L := by omega
      have c2 := (HRU.out.next HK.out.bel).blk.cell 2 _ rfl
      go_wp2_with fail
      go_ret2
      have h := HK.out.kys
      have hlen := HK.out.len
      rw [List.take_of_length_le (by rw [HLE.out]; exact Nat.le_refl _)] at h hlen
      rw [List.length_map] at hlen
      refine ⟨A2, c2', Om2, by rw [hlen]; rfl, fun h0 => ?_, H3.out.next HK.out.bel⟩
      obtain ⟨g, e1, e2, e3, e4⟩ := h h0
      exact ⟨g, e1, Nat.le_trans HSZ.out e2, e3, e4⟩
end
theorem At5.next {W W' : World} {g i : Nat} {k : AutM.Ke} (H : At5 W g i k) (hg : g < W.heap.size) (hb : Below W.heap.size W W') : At5 W' g i k :=
  ⟨(hb.cell (p := ⟨g, _, none⟩) hg).trans H.c0, (hb.cell (p := ⟨g, _, none⟩) hg).trans H.c1, (hb.cell (p := ⟨g, _, none⟩) hg).trans H.c2, (hb.cell (p := ⟨g, _, none⟩) hg).trans H.c3, (hb.cell (p := ⟨g, _, none⟩) hg).trans H.c4⟩
theorem _root_.Go.Proofs.Ytgcnhbjoalemlaa.Tb.Kys.next {W W' : World} {b : Nat} {p : Option Addr} {ks : List AutM.Ke} (H : Kys W b p ks) (hb : Below W.heap.size W W') : Kys W' b p ks := fun h0 => by
  obtain ⟨g, e1, e2, e3, e4⟩ := H h0
  exact ⟨g, e1, e2, Nat.lt_of_lt_of_le e3 hb.size, fun i k hk => At5.next (e4 i k hk) e3 hb⟩
theorem _root_.Go.Proofs.Ytgcnhbjoalemlaa.Tb.Kys.only {W W' : World} {O : Nat → Prop} {b : Nat} {p : Option Addr} {ks : List AutM.Ke} (H : Kys W b p ks) (ho : Only O W W') (hn : ∀ j, b ≤ j → j < W.heap.size → ¬ O j) : Kys W' b p ks := fun h0 => by
  obtain ⟨g, e1, e2, e3, e4⟩ := H h0
  have hc : ∀ x, W'.cell? ⟨g, x, none⟩ = W.cell? ⟨g, x, none⟩ := fun x => ho.cell (p := ⟨g, x, none⟩) e3 (hn g e2 e3)
  exact ⟨g, e1, e2, Nat.lt_of_lt_of_le e3 ho.size, fun i k hk => ⟨(hc _).trans (e4 i k hk).c0, (hc _).trans (e4 i k hk).c1, (hc _).trans (e4 i k hk).c2, (hc _).trans (e4 i k hk).c3, (hc _).trans (e4 i k hk).c4⟩⟩
set_option maxHeartbeats 2000000 in
theorem same_any (ks : List AutM.Ke) (n : Nat) (hn : ks.length = n) (hl : n ≤ 100000) (p1 p2 : Option Addr) (c1 c2 b1 b2 : Nat) (W : World) (h1 : Kys W b1 p1 ks) (h2 : Kys W b2 p2 ks) : Calls Try.prog 21 #[.slice p1 n c1, .slice p2 n c2] W fun e w' => e = .returned (.bool true) ∧ Below W.heap.size W w' := by
  have H1 := Lib.hid h1
  have H2 := Lib.hid h2
  have HN := Lib.hid hn
  clear h1 h2 hn
  go_enter Try.func21, Try.ntmps21
  go_wp2_with fail
  go_loopw [5] (fun vi wr => ∃ j : Nat, vi = .int .i64 (j : Int) ∧ j ≤ n ∧ Hid (Below W.heap.size W wr)) (fun vi _ => n - (RowKit.intOf vi).toNat)
  case atStart => exact ⟨0, rfl, Nat.zero_le _, Lib.hid (Below.refl _ _)⟩
  case round =>
    obtain ⟨j, rfl, hj, HBL⟩ := hrel
    by_cases h1 : j < n
    · obtain ⟨k, hk⟩ : ∃ k, ks[j]? = some k := ⟨_, List.getElem?_eq_getElem (by rw [HN.out]; exact h1)⟩
      obtain ⟨g1, e1, -, l1, a1⟩ := H1.out (by rw [HN.out]; omega)
      obtain ⟨g2, e2, -, l2, a2⟩ := H2.out (by rw [HN.out]; omega)
      subst e1 e2
      have HA := Lib.hid (At5.next (a1 j k hk) l1 HBL.out)
      have HB := Lib.hid (At5.next (a2 j k hk) l2 HBL.out)
      have HGA : Hid (g1 < wr.heap.size) := Nat.lt_of_lt_of_le l1 HBL.out.size
      have HGB : Hid (g2 < wr.heap.size) := Nat.lt_of_lt_of_le l2 HBL.out.size
      have EQ := Ky.ky_same k.a k.b k.p k.q k.r
      clear hk l1 l2 a1 a2
      go_wp2_with fail
      refine wp_region_held_drew (S := fun w' => Hid (Below wr.heap.size wr w')) (by kernel_rfl) (Lib.hid (Below.refl _ wr).drew) (fun hH => ?_)
      refine wpAnyH_take (i := 0) (oi := ⟨some 17, _, _, _, _, _⟩) (v := ?v1) rfl (by kernel_rfl) (by kernel_rfl) (by kernel_rfl) (fun _ _ _ h => h) (Or.inl ⟨rfl, ?c1⟩) hH ?r1
      case c1 => (intro w' _; go_simp; (try with_reducible rfl))
      try simp only [Act.put, List.setIfInBounds_toArray, List.set_cons_zero, List.set_cons_succ]
      refine wpAnyH_take (i := 1) (oi := ⟨some 18, _, _, _, _, _⟩) (v := ?v2) rfl (by kernel_rfl) (by kernel_rfl) (by kernel_rfl) (fun _ _ _ h => h) (Or.inl ⟨rfl, ?c2⟩) hH ?r2
      case c2 => (intro w' _; go_simp; (try with_reducible rfl))
      try simp only [Act.put, List.setIfInBounds_toArray, List.set_cons_zero, List.set_cons_succ]
      refine wpAnyH_take (i := 2) (oi := ⟨some 19, _, _, _, _, _⟩) (v := ?v3) rfl (by kernel_rfl) (by kernel_rfl) (by kernel_rfl) (fun _ _ _ h => h) (Or.inl ⟨rfl, ?c3⟩) hH ?r3
      case c3 => (intro w' hS; have hv := h1; go_simp; (try with_reducible rfl))
      try simp only [Act.put, List.setIfInBounds_toArray, List.set_cons_zero, List.set_cons_succ]
      refine wpAnyH_take (i := 3) (oi := ⟨some 20, _, _, _, _, _⟩) (v := ?v4) rfl (by kernel_rfl) (by kernel_rfl) (by kernel_rfl) (fun _ _ _ h => h) (Or.inl ⟨rfl, ?c4⟩) hH ?r4
      case c4 => (intro w' hS; obtain ⟨x0, x1, x2, x3, x4⟩ := At5.next HA.out HGA.out hS.out; go_simp; (try with_reducible rfl))
      try simp only [Act.put, List.setIfInBounds_toArray, List.set_cons_zero, List.set_cons_succ]
      refine wpAnyH_take (i := 4) (oi := ⟨some 21, _, _, _, _, _⟩) (v := ?v5) rfl (by kernel_rfl) (by kernel_rfl) (by kernel_rfl) (fun _ _ _ h => h) (Or.inl ⟨rfl, ?c5⟩) hH ?r5
      case c5 => (intro w' _; go_simp; (try with_reducible rfl))
      try simp only [Act.put, List.setIfInBounds_toArray, List.set_cons_zero, List.set_cons_succ]
      refine wpAnyH_take (i := 5) (oi := ⟨some 22, _, _, _, _, _⟩) (v := ?v6) rfl (by kernel_rfl) (by kernel_rfl) (by kernel_rfl) (fun _ _ _ h => h) (Or.inl ⟨rfl, ?c6⟩) hH ?r6
      case c6 => (intro w' _; go_simp; (try with_reducible rfl))
      try simp only [Act.put, List.setIfInBounds_toArray, List.set_cons_zero, List.set_cons_succ]
      refine wpAnyH_take (i := 6) (oi := ⟨some 23, _, _, _, _, _⟩) (v := ?v7) rfl (by kernel_rfl) (by kernel_rfl) (by kernel_rfl) (fun _ _ _ h => h) (Or.inl ⟨rfl, ?c7⟩) hH ?r7
      case c7 => (intro w' hS; have hv := h1; go_simp; (try with_reducible rfl))
      try simp only [Act.put, List.setIfInBounds_toArray, List.set_cons_zero, List.set_cons_succ]
      refine wpAnyH_take (i := 7) (oi := ⟨some 24, _, _, _, _, _⟩) (v := ?v8) rfl (by kernel_rfl) (by kernel_rfl) (by kernel_rfl) (fun _ _ _ h => h) (Or.inl ⟨rfl, ?c8⟩) hH ?r8
      case c8 => (intro w' hS; obtain ⟨x0, x1, x2, x3, x4⟩ := At5.next HB.out HGB.out hS.out; go_simp; (try with_reducible rfl))
      try simp only [Act.put, List.setIfInBounds_toArray, List.set_cons_zero, List.set_cons_succ]
      refine wpAnyH_take (i := 8) (oi := ⟨some 25, _, _, _, _, _⟩) (v := ?v9) rfl (by kernel_rfl) (by kernel_rfl) (by kernel_rfl) (fun _ _ _ h => h) (Or.inl ⟨rfl, ?c9⟩) hH ?r9
      case c9 => (intro w' _; go_simp; (try with_reducible rfl))
      try simp only [Act.put, List.setIfInBounds_toArray, List.set_cons_zero, List.set_cons_succ]
      refine wpAnyH_done (by kernel_rfl) ?_ _
      have HBE := Lib.hid (HBL.out.trans (hH.out.mono HBL.out.size))
      clear hH
      go_wp2_with fail
      go_roundw
      case rel => exact ⟨j + 1, by go_num, by omega, HBE⟩
      case measure => simp [RowKit.intOf]; omega
    · obtain rfl : j = n := by omega
      go_wp2_with fail
      go_ret
      exact ⟨rfl, HBL.out⟩
set_option maxHeartbeats 2000000 in
theorem new_no (mb : Nat) (s : Int) (hs : isPow s = false) (W : World) : Calls Try.prog 9 #[ptr mb, .int .i64 s] W fun e w' => e = .returned (.pointer none) ∧ W = w' := by
  have HS := Lib.hid hs
  clear hs
  go_enter Try.func9, Try.ntmps9
  go_wp2_with fail
  go_loop [5] (Ky.PowAt 13) (fun i => 8192 - (RowKit.intOf i).toNat)
  case atStart => exact ⟨0, by omega, rfl⟩
  case round =>
    obtain ⟨j, hj, rfl⟩ := hrel
    by_cases hlt : j ≤ 12
    · have hp : 1 ≤ 2 ^ j ∧ 2 ^ j ≤ 4096 := Ky.pow_le hlt
      have hne : (((2 ^ j : Nat) : Int) == s) = false := by
        rw [beq_eq_false_iff_ne]
        intro he
        have := KeyM.pow_isPow ⟨j, by omega⟩
        rw [show (((2 ^ (⟨j, by omega⟩ : Fin 13).val : Nat)) : Int) = s from he, HS.out] at this
        cases this
      have HD := Lib.hid (show 2 ^ (j + 1) = 2 ^ j * 2 from Nat.pow_succ 2 j)
      generalize hN : 2 ^ j = N at hp hne HD ⊢
      clear hN
      go_wp2_with fail
      go_round
      case rel => exact ⟨j + 1, by omega, by rw [HD.out]; go_num⟩
      case measure => simp [RowKit.intOf]; omega
    · have hp : 2 ^ j = 8192 := Ky.pow_big hj hlt
      rw [hp]
      clear hp
      go_wp2_with fail
      go_ret
      exact ⟨rfl, rfl⟩
set_option maxHeartbeats 2000000 in
theorem new_ok (mb n : Nat) (hs : isPow (n : Int) = true) (W : World) : Calls Try.prog 9 #[ptr mb, .int .i64 (n : Int)] W fun e w' => ∃ O B, e = .returned (ptr B) ∧ UAt w' O B mb n [] ∧ Below W.heap.size W w' ∧ ∀ j, O j → W.heap.size ≤ j := by
  have HPW := Lib.hid hs
  obtain ⟨e, he, hne⟩ := KeyM.isPow_exp hs
  have hne2 : n = 2 ^ e := Int.ofNat.inj hne
  have hE : 1 ≤ 2 ^ e ∧ 2 ^ e ≤ 4096 := Ky.pow_le he
  have HL : Hid (∀ j, j ≤ e → 1 ≤ 2 ^ j ∧ 2 ^ j ≤ 2 ^ e) := fun j h => Ky.pow_le h
  have HI : Hid (∀ j, j ≤ e → 2 ^ j ≠ 2 ^ e → j + 1 ≤ e) := fun j h hn => by
    rcases Nat.lt_or_ge j e with h1 | h1
    · exact h1
    · exact absurd (by rw [Nat.le_antisymm h h1]) hn
  rw [← hne2] at hE HL HI
  clear hs hne
  clear hne2
  go_enter Try.func9, Try.ntmps9
  go_wp2_with fail
  go_loop [5] (Ky.PowAt e) (fun i => 8192 - (RowKit.intOf i).toNat)
  case atStart => exact ⟨0, by omega, rfl⟩
  case round =>
    obtain ⟨j, hj, rfl⟩ := hrel
    have hp := HL.out j hj
    by_cases hlt : 2 ^ j = n
    · rw [hlt]
      clear hlt hp HL HI
      go_wp2_with fail
      go_ret
      refine ⟨fun j => j = W.heap.size, W.heap.size, rfl, ⟨⟨.slice none 0 0, Blk.box W _ _, ⟨rfl, .inl ⟨rfl, rfl⟩⟩, fun g e => (by cases e), rfl, fun j hj => ?_⟩, Oks.nil, HPW.out⟩, below_box _ _, fun j hj => by omega⟩
      rw [World.size_alloc]; omega
    · have hne : (((2 ^ j : Nat) : Int) == (n : Int)) = false := beq_eq_false_iff_ne.2 fun h => hlt (Int.ofNat.inj h)
      have HJ := Lib.hid (HI.out j hj hlt)
      have HD := Lib.hid (show 2 ^ (j + 1) = 2 ^ j * 2 from Nat.pow_succ 2 j)
      generalize hN : 2 ^ j = N at hp hne HD ⊢
      clear hN hlt
      go_wp2_with fail
      go_round
      case rel => exact ⟨j + 1, HJ.out, by rw [HD.out]; go_num⟩
      case measure => simp [RowKit.intOf]; omega
end R
end Tb
end Go.Proofs.Ytgcnhbjoalemlaa
/- Layer 20: the laws' awake. (Written by wip/tools/mkTabP.py.) -/
set_option linter.unusedVariables false
set_option linter.unusedSimpArgs false
set_option maxRecDepth 100000
namespace Go.Proofs.Ytgcnhbjoalemlaa
open Go.ChangeShapes Go.WideShapes Go.ChangeAt Go.RowKit Go.Mtl Go.Lib
namespace Tb
open TabM
open KeyM (isPow)
open MemM (Ms holdV touchS newS lockS lockB)
open Me (ptr)
/-- A world with no block kept. -/
abbrev fw (w : World) : Fw := { w with F := fun _ _ => False }
theorem TM.make {w W w' : World} {Om Ot : Nat → Prop} {mb B : Nat} {ms : Ms} {n : Nat} {fs : List Fl} (hm : Me.MAt W Om mb ms) (hb : Below w.heap.size w W) (hn : ∀ j, Om j → w.heap.size ≤ j) (ht : TAt w' Ot B mb n fs) (hb2 : Below W.heap.size W w') (hn2 : ∀ j, Ot j → W.heap.size ≤ j) : TM (fw w) Om Ot mb B ms n fs w' :=
  ⟨hm.next hb2, ht, hb.trans (hb2.mono hb.size), hn, fun j hj => Nat.le_trans hb.size (hn2 j hj), fun j h1 h2 => by have := hm.lt j h1; have := hn2 j h2; omega, fun _ _ e => e.elim, fun _ _ e => e.elim⟩
/-- A memory's method, beside a table. -/
theorem TM.does {w : Fw} {W : World} {Om Ot : Nat → Prop} {mb B : Nat} {ms ms' : Ms} {n : Nat} {fs : List Fl} (H : TM w Om Ot mb B ms n fs W) {v : Value} {e : Ending} {w' : World} (D : Me.Does W Om mb v ms' e w') : ∃ O', e = .returned v ∧ TM w O' Ot mb B ms' n fs w' := by
  obtain ⟨O', h1, h2, h3, h4⟩ := D
  exact ⟨O', h1, H.left h2 h3 h4⟩
theorem lit_kys (w : World) (k : AutM.Ke) : Kys (w.alloc (.cells (k5 k).toArray 37)) w.heap.size (some ⟨w.heap.size, 0, none⟩) [k] := fun _ =>
  ⟨w.heap.size, rfl, Nat.le_refl _, by rw [World.size_alloc]; omega, fun i x hx => by
    cases i with
    | zero =>
      obtain rfl := Option.some.inj hx
      have h := Blk.box w (k5 k).toArray 37
      exact ⟨(by rw [Nat.zero_mul]; exact h.cell 0 _ rfl), (by rw [Nat.zero_mul]; exact h.cell 1 _ rfl), (by rw [Nat.zero_mul]; exact h.cell 2 _ rfl), (by rw [Nat.zero_mul]; exact h.cell 3 _ rfl), (by rw [Nat.zero_mul]; exact h.cell 4 _ rfl)⟩
    | succ i => simp at hx⟩
/-- The states that awake goes through. -/
def ka : AutM.Ke := ⟨0, 0, 0, 0, 6⟩
def a0 : Ms := newS 0 1
def a1 : Ms := lockS a0 7 0
def a2 : Ms := touchS a1 7 6 0
def a3 : Ms := touchS a2 7 5 0
theorem ka_ok : ka.Ok := ⟨by decide, by decide, by decide, by decide, by decide⟩
theorem ka_in : sOf 1 ka = 0 := Nat.mod_one _
theorem h0_is : heldB a0 7 ((0 : Nat) : Int) = false := by decide
theorem l0_is : lockB a0 7 0 = true := by decide
theorem h1_is : heldB a1 7 ((0 : Nat) : Int) = true := by decide
theorem h2_is : heldB a2 7 ((0 : Nat) : Int) = true := by decide
theorem h3_is : heldB a3 8 ((0 : Nat) : Int) = false := by decide
theorem n1_is : a1.ls.length ≤ 1000000000000 := by decide
theorem n2_is : a2.ls.length ≤ 1000000000000 := by decide
theorem n3_is : a3.ls.length = 3 := by decide
theorem f1_is : upd ⟨ka, 3, true⟩ [] = [⟨ka, 3, true⟩] := by unfold upd; rfl
theorem f2_is : find ka [⟨ka, 3, true⟩] = some ⟨ka, 3, true⟩ := rfl
set_option maxHeartbeats 4000000 in
theorem awake_any (w : World) : Calls Try.prog 10 #[] w fun e w' => e = .returned (.bool true) ∧ Below w.heap.size w w' := by
  go_enter Try.func10, Try.ntmps10
  go_wp2_with fail
  go_at_call 6
  refine (Me.new_any 0 1 _).mono ?_
  rintro e w0 ⟨Om, mb, rfl, hm, hb, hO⟩
  have HM0 := Lib.hid hm
  have HB0 := Lib.hid hb
  have HO0 := Lib.hid hO
  clear hm hb hO
  go_wp2_with fail
  go_at_call 8
  refine (new_ok w0 mb 1 (by decide)).mono ?_
  rintro e w1 ⟨Ot, B, rfl, ht, hb, hO⟩
  have H1 : Hid (TM (fw w) Om Ot mb B a0 1 [] w1) := TM.make HM0.out HB0.out HO0.out ht hb hO
  clear ht hb hO HM0 HB0 HO0
  go_wp2_with fail
  obtain ⟨gk, hgk⟩ : ∃ g, w1.heap.size = g := ⟨_, rfl⟩
  have H2 := Lib.hid (H1.out.add (.cells #[.int .u32 0, .int .u32 0, .int .u16 0, .int .u16 0, .int .u8 6] 37))
  obtain ⟨w2, hw2⟩ : ∃ v, w1.alloc (.cells #[.int .u32 0, .int .u32 0, .int .u16 0, .int .u16 0, .int .u8 6] 37) = v := ⟨_, rfl⟩
  obtain ⟨fr, hfr⟩ : ∃ v, (fw w).add w1.heap.size (.cells #[.int .u32 0, .int .u32 0, .int .u16 0, .int .u16 0, .int .u8 6] 37) = v := ⟨_, rfl⟩
  have HBX : Hid (∀ W Om Ot mb B ms n fs, TM fr Om Ot mb B ms n fs W → W.cell? ⟨w1.heap.size, 0, none⟩ = some (.int .u32 0) ∧ W.cell? ⟨w1.heap.size, 1, none⟩ = some (.int .u32 0) ∧ W.cell? ⟨w1.heap.size, 2, none⟩ = some (.int .u16 0) ∧ W.cell? ⟨w1.heap.size, 3, none⟩ = some (.int .u16 0) ∧ W.cell? ⟨w1.heap.size, 4, none⟩ = some (.int .u8 6)) := fun W Om Ot mb B ms n fs h => by
    rw [← hfr] at h
    exact ⟨h.box.cell 0 _ rfl, h.box.cell 1 _ rfl, h.box.cell 2 _ rfl, h.box.cell 3 _ rfl, h.box.cell 4 _ rfl⟩
  have HBE : Hid (∀ W Om Ot mb B ms n fs, TM fr Om Ot mb B ms n fs W → Below w.heap.size w W) := fun W Om Ot mb B ms n fs h => by
    rw [← hfr] at h
    exact h.bel
  rw [hw2, hfr] at H2
  rw [hw2]
  rw [hgk] at HBX ⊢
  clear hw2 hgk H1 hfr
  obtain ⟨x0, x1, x2, x3, x4⟩ := HBX.out _ _ _ _ _ _ _ _ H2.out
  go_wp2_with fail
  clear x0 x1 x2 x3 x4
  go_at_call 15
  refine (put_no H2.out 7 ka ka_ok 3 true 0 ka_in h0_is).mono ?_
  rintro e w3 ⟨Om3, rfl, h⟩
  have H3 := Lib.hid h
  clear h H2
  go_wp2_with fail
  go_at_call 11
  refine (Me.lock_any H3.out.mem 7 0 (by omega) (by show a0.ls.length ≤ _; exact Nat.zero_le _)).mono ?_
  intro e w4 hd
  rw [show lockB a0 7 0 = true from l0_is, show lockS a0 7 0 = a1 from rfl] at hd
  obtain ⟨Om4, rfl, h⟩ := H3.out.does hd
  have H4 := Lib.hid h
  clear hd h H3
  obtain ⟨x0, x1, x2, x3, x4⟩ := HBX.out _ _ _ _ _ _ _ _ H4.out
  go_wp2_with fail
  clear x0 x1 x2 x3 x4
  go_at_call 15
  refine (put_yes H4.out n1_is 7 ka ka_ok 3 true 0 ka_in h1_is (by omega)).mono ?_
  rintro e w5 ⟨Om5, rfl, h⟩
  rw [f1_is] at h
  have H5 : Hid (TM fr Om5 Ot mb B a2 1 [⟨ka, 3, true⟩] w5) := h
  clear h H4
  obtain ⟨x0, x1, x2, x3, x4⟩ := HBX.out _ _ _ _ _ _ _ _ H5.out
  go_wp2_with fail
  clear x0 x1 x2 x3 x4
  go_at_call 22
  refine (find_yes H5.out n2_is 7 ka ka_ok 3 true true 0 ka_in h2_is (.inl ⟨_, f2_is, rfl, rfl, rfl⟩)).mono ?_
  rintro e w6 ⟨Om6, rfl, h⟩
  have H6 : Hid (TM fr Om6 Ot mb B a3 1 [⟨ka, 3, true⟩] w6) := h
  clear h H5
  obtain ⟨x0, x1, x2, x3, x4⟩ := HBX.out _ _ _ _ _ _ _ _ H6.out
  go_wp2_with fail
  clear x0 x1 x2 x3 x4
  go_at_call 22
  refine (find_no H6.out 8 ka ka_ok 0 ka_in h3_is).mono ?_
  rintro e w7 ⟨Om7, rfl, h⟩
  have H7 := Lib.hid h
  clear h H6
  go_wp2_with fail
  refine wp_region_held_drew (S := fun w' => Hid (TM fr Om7 Ot mb B a3 1 [⟨ka, 3, true⟩] w')) (by kernel_rfl) (Lib.hid (H7.out.next (Below.refl _ _).drew)) (fun hH => ?_)
  refine wpAnyH_take (i := 0) (oi := ⟨some 42, _, _, _, _, _⟩) (v := ?v1) rfl (by kernel_rfl) (by kernel_rfl) (by kernel_rfl) (fun _ _ _ h => h) (Or.inl ⟨rfl, ?c1⟩) hH ?r1
  case c1 => (intro w' _; go_simp; (try with_reducible rfl))
  try simp only [Act.put, List.setIfInBounds_toArray, List.set_cons_zero, List.set_cons_succ]
  refine wpAnyH_take (i := 1) (oi := ⟨some 43, _, _, _, _, _⟩) (v := ?v2) rfl (by kernel_rfl) (by kernel_rfl) (by kernel_rfl) (fun _ _ _ h => h) (Or.inl ⟨rfl, ?c2⟩) hH ?r2
  case c2 => (intro w' _; go_simp; (try with_reducible rfl))
  try simp only [Act.put, List.setIfInBounds_toArray, List.set_cons_zero, List.set_cons_succ]
  refine wpAnyH_take (i := 2) (oi := ⟨some 44, _, _, _, _, _⟩) (v := ?v3) rfl (by kernel_rfl) (by kernel_rfl) (by kernel_rfl) (fun _ _ _ h => h) (Or.inl ⟨rfl, ?c3⟩) hH ?r3
  case c3 => (intro w' _; go_simp; (try with_reducible rfl))
  try simp only [Act.put, List.setIfInBounds_toArray, List.set_cons_zero, List.set_cons_succ]
  refine wpAnyH_take (i := 3) (oi := ⟨some 45, _, _, _, _, _⟩) (v := ?v4) rfl (by kernel_rfl) (by kernel_rfl) (by kernel_rfl) (fun _ _ _ h => h) (Or.inl ⟨rfl, ?c4⟩) hH ?r4
  case c4 => (intro w' _; go_simp; (try with_reducible rfl))
  try simp only [Act.put, List.setIfInBounds_toArray, List.set_cons_zero, List.set_cons_succ]
  refine wpAnyH_take (i := 4) (oi := ⟨some 46, _, _, _, _, _⟩) (v := ?v5) rfl (by kernel_rfl) (by kernel_rfl) (by kernel_rfl) (fun _ _ _ h => h) (Or.inl ⟨rfl, ?c5⟩) hH ?r5
  case c5 => (intro w' _; go_simp; (try with_reducible rfl))
  try simp only [Act.put, List.setIfInBounds_toArray, List.set_cons_zero, List.set_cons_succ]
  refine wpAnyH_take (i := 5) (oi := ⟨some 47, _, _, _, _, _⟩) (v := ?v6) rfl (by kernel_rfl) (by kernel_rfl) (by kernel_rfl) (fun _ _ _ h => h) (Or.inl ⟨rfl, ?c6⟩) hH ?r6
  case c6 => (intro w' _; go_simp; (try with_reducible rfl))
  try simp only [Act.put, List.setIfInBounds_toArray, List.set_cons_zero, List.set_cons_succ]
  refine wpAnyH_take (i := 6) (oi := ⟨some 48, _, _, _, _, _⟩) (v := ?v7) rfl (by kernel_rfl) (by kernel_rfl) (by kernel_rfl) (fun _ _ _ h => h) (Or.inl ⟨rfl, ?c7⟩) hH ?r7
  case c7 => (intro w' _; go_simp; (try with_reducible rfl))
  try simp only [Act.put, List.setIfInBounds_toArray, List.set_cons_zero, List.set_cons_succ]
  refine wpAnyH_take (i := 7) (oi := ⟨some 49, _, _, _, _, _⟩) (v := ?v8) rfl (by kernel_rfl) (by kernel_rfl) (by kernel_rfl) (fun _ _ _ h => h) (Or.inl ⟨rfl, ?c8⟩) hH ?r8
  case c8 => (intro w' _; go_simp; (try with_reducible rfl))
  try simp only [Act.put, List.setIfInBounds_toArray, List.set_cons_zero, List.set_cons_succ]
  refine wpAnyH_take (i := 8) (oi := ⟨some 50, _, _, _, _, _⟩) (v := ?v9) rfl (by kernel_rfl) (by kernel_rfl) (by kernel_rfl) (fun _ _ _ h => h) (Or.inl ⟨rfl, ?c9⟩) hH ?r9
  case c9 => (intro w' _; go_simp; (try with_reducible rfl))
  try simp only [Act.put, List.setIfInBounds_toArray, List.set_cons_zero, List.set_cons_succ]
  refine wpAnyH_take (i := 9) (oi := ⟨some 51, _, _, _, _, _⟩) (v := ?v10) rfl (by kernel_rfl) (by kernel_rfl) (by kernel_rfl) (fun _ _ _ h => h) (Or.inl ⟨rfl, ?c10⟩) hH ?r10
  case c10 => (intro w' _; go_simp; (try with_reducible rfl))
  try simp only [Act.put, List.setIfInBounds_toArray, List.set_cons_zero, List.set_cons_succ]
  refine wpAnyH_take (i := 10) (oi := ⟨some 52, _, _, _, _, _⟩) (v := ?v11) rfl (by kernel_rfl) (by kernel_rfl) (by kernel_rfl) (fun _ _ _ h => h) (Or.inl ⟨rfl, ?c11⟩) hH ?r11
  case c11 => (intro w' _; go_simp; (try with_reducible rfl))
  try simp only [Act.put, List.setIfInBounds_toArray, List.set_cons_zero, List.set_cons_succ]
  refine wpAnyH_take (i := 11) (oi := ⟨some 53, _, _, _, _, _⟩) (v := ?v12) rfl (by kernel_rfl) (by kernel_rfl) (by kernel_rfl) (fun _ _ _ h => h) (Or.inl ⟨rfl, ?c12⟩) hH ?r12
  case c12 => (intro w' _; go_simp; (try with_reducible rfl))
  try simp only [Act.put, List.setIfInBounds_toArray, List.set_cons_zero, List.set_cons_succ]
  refine wpAnyH_take (i := 12) (oi := ⟨some 54, _, _, _, _, _⟩) (v := ?v13) rfl (by kernel_rfl) (by kernel_rfl) (by kernel_rfl) (fun _ _ _ h => h) (Or.inl ⟨rfl, ?c13⟩) hH ?r13
  case c13 => (intro w' _; go_simp; (try with_reducible rfl))
  try simp only [Act.put, List.setIfInBounds_toArray, List.set_cons_zero, List.set_cons_succ]
  refine wpAnyH_take (i := 13) (oi := ⟨some 55, _, _, _, _, _⟩) (v := ?v14) rfl (by kernel_rfl) (by kernel_rfl) (by kernel_rfl) (fun _ _ _ h => h) (Or.inl ⟨rfl, ?c14⟩) hH ?r14
  case c14 => (intro w' _; go_simp; (try with_reducible rfl))
  try simp only [Act.put, List.setIfInBounds_toArray, List.set_cons_zero, List.set_cons_succ]
  refine wpAnyH_take (i := 14) (oi := ⟨some 56, _, _, _, _, _⟩) (v := ?v15) rfl (by kernel_rfl) (by kernel_rfl) (by kernel_rfl) (fun _ _ _ h => h) (Or.inl ⟨rfl, ?c15⟩) hH ?r15
  case c15 => (intro w' _; go_simp; (try with_reducible rfl))
  try simp only [Act.put, List.setIfInBounds_toArray, List.set_cons_zero, List.set_cons_succ]
  refine wpAnyH_take (i := 15) (oi := ⟨some 57, _, _, _, _, _⟩) (v := ?v16) rfl (by kernel_rfl) (by kernel_rfl) (by kernel_rfl) (fun _ _ _ h => h) (Or.inl ⟨rfl, ?c16⟩) hH ?r16
  case c16 => (intro w' _; go_simp; (try with_reducible rfl))
  try simp only [Act.put, List.setIfInBounds_toArray, List.set_cons_zero, List.set_cons_succ]
  refine wpAnyH_take (i := 16) (oi := ⟨some 58, _, _, _, _, _⟩) (v := ?v17) rfl (by kernel_rfl) (by kernel_rfl) (by kernel_rfl) (fun _ _ _ h => h) (Or.inl ⟨rfl, ?c17⟩) hH ?r17
  case c17 => (intro w' _; go_simp; (try with_reducible rfl))
  try simp only [Act.put, List.setIfInBounds_toArray, List.set_cons_zero, List.set_cons_succ]
  refine wpAnyH_take (i := 17) (oi := ⟨some 59, _, _, _, _, _⟩) (v := ?v18) rfl (by kernel_rfl) (by kernel_rfl) (by kernel_rfl) (fun _ _ _ h => h) (Or.inl ⟨rfl, ?c18⟩) hH ?r18
  case c18 => (intro w' _; go_simp; (try with_reducible rfl))
  try simp only [Act.put, List.setIfInBounds_toArray, List.set_cons_zero, List.set_cons_succ]
  refine wpAnyH_take (i := 18) (oi := ⟨some 60, _, _, _, _, _⟩) (v := ?v19) rfl (by kernel_rfl) (by kernel_rfl) (by kernel_rfl) (fun _ _ _ h => h) (Or.inl ⟨rfl, ?c19⟩) hH ?r19
  case c19 => (intro w' _; go_simp; (try with_reducible rfl))
  try simp only [Act.put, List.setIfInBounds_toArray, List.set_cons_zero, List.set_cons_succ]
  refine wpAnyH_take (i := 19) (oi := ⟨some 61, _, _, _, _, _⟩) (v := ?v20) rfl (by kernel_rfl) (by kernel_rfl) (by kernel_rfl) (fun _ _ _ h => h) (Or.inl ⟨rfl, ?c20⟩) hH ?r20
  case c20 => (intro w' _; go_simp; (try with_reducible rfl))
  try simp only [Act.put, List.setIfInBounds_toArray, List.set_cons_zero, List.set_cons_succ]
  refine wpAnyH_take (i := 20) (oi := ⟨some 62, _, _, _, _, _⟩) (v := ?v21) rfl (by kernel_rfl) (by kernel_rfl) (by kernel_rfl) (fun _ _ _ h => h) (Or.inl ⟨rfl, ?c21⟩) hH ?r21
  case c21 => (intro w' _; go_simp; (try with_reducible rfl))
  try simp only [Act.put, List.setIfInBounds_toArray, List.set_cons_zero, List.set_cons_succ]
  refine wpAnyH_take (i := 21) (oi := ⟨some 63, _, _, _, _, _⟩) (v := ?v22) rfl (by kernel_rfl) (by kernel_rfl) (by kernel_rfl) (fun _ _ _ h => h) (Or.inl ⟨rfl, ?c22⟩) hH ?r22
  case c22 => (intro w' _; go_simp; (try with_reducible rfl))
  try simp only [Act.put, List.setIfInBounds_toArray, List.set_cons_zero, List.set_cons_succ]
  refine wpAnyH_take (i := 22) (oi := ⟨some 64, _, _, _, _, _⟩) (v := ?v23) rfl (by kernel_rfl) (by kernel_rfl) (by kernel_rfl) (fun _ _ _ h => h) (Or.inl ⟨rfl, ?c23⟩) hH ?r23
  case c23 => (intro w' _; go_simp; (try with_reducible rfl))
  try simp only [Act.put, List.setIfInBounds_toArray, List.set_cons_zero, List.set_cons_succ]
  refine wpAnyH_take (i := 23) (oi := ⟨some 65, _, _, _, _, _⟩) (v := ?v24) rfl (by kernel_rfl) (by kernel_rfl) (by kernel_rfl) (fun _ _ _ h => h) (Or.inl ⟨rfl, ?c24⟩) hH ?r24
  case c24 => (intro w' _; go_simp; (try with_reducible rfl))
  try simp only [Act.put, List.setIfInBounds_toArray, List.set_cons_zero, List.set_cons_succ]
  refine wpAnyH_take (i := 24) (oi := ⟨some 66, _, _, _, _, _⟩) (v := ?v25) rfl (by kernel_rfl) (by kernel_rfl) (by kernel_rfl) (fun _ _ _ h => h) (Or.inl ⟨rfl, ?c25⟩) hH ?r25
  case c25 => (intro w' _; go_simp; (try with_reducible rfl))
  try simp only [Act.put, List.setIfInBounds_toArray, List.set_cons_zero, List.set_cons_succ]
  refine wpAnyH_take (i := 25) (oi := ⟨some 67, _, _, _, _, _⟩) (v := ?v26) rfl (by kernel_rfl) (by kernel_rfl) (by kernel_rfl) (fun _ _ _ h => h) (Or.inl ⟨rfl, ?c26⟩) hH ?r26
  case c26 => (intro w' _; go_simp; (try with_reducible rfl))
  try simp only [Act.put, List.setIfInBounds_toArray, List.set_cons_zero, List.set_cons_succ]
  refine wpAnyH_take (i := 27) (oi := ⟨some 69, _, _, _, _, _⟩) (v := ?v27) rfl (by kernel_rfl) (by kernel_rfl) (by kernel_rfl) (fun _ _ _ h => h) (Or.inl ⟨rfl, ?c27⟩) hH ?r27
  case c27 => (intro w' hS; obtain ⟨x0, x1, x2, x3, x4⟩ := HBX.out _ _ _ _ _ _ _ _ hS.out; go_simp; (try with_reducible rfl))
  try simp only [Act.put, List.setIfInBounds_toArray, List.set_cons_zero, List.set_cons_succ]
  refine wpAnyH_ready (rs := [26, 28]) (by kernel_rfl) (by simp) (AllReadyH.cons rfl (fun K hK => ?_) (AllReadyH.cons rfl (fun K hK => ?_) (AllReadyH.nil)))
  · go_simp
    go_at_call 24
    refine (all_any hH.out (by show 1 ≤ _; omega)).mono ?_
    rintro e w8 ⟨p, c, rfl, hk, hbp⟩
    refine hK.out _ _ (Lib.hid (hH.out.next hbp)) (fun hH => ?_)
    clear hK K
    have HKA := Lib.hid hk
    clear hk
    clear hbp
    try simp only [Act.put, List.setIfInBounds_toArray, List.set_cons_zero, List.set_cons_succ]
    refine wpAnyH_ready (rs := [28]) (by kernel_rfl) (by simp) (AllReadyH.cons rfl (fun K hK => ?_) (AllReadyH.nil))
    go_simp
    refine hK.out _ _ (Lib.hid (hH.out.next (below_box _ _))) (fun hH => ?_)
    clear hK K
    have HKL : Hid (Kys (w8.alloc (.cells #[.int .u32 0, .int .u32 0, .int .u16 0, .int .u16 0, .int .u8 6] 37)) w8.heap.size (some ⟨w8.heap.size, 0, none⟩) [ka]) := lit_kys w8 ka
    replace HKA := Lib.hid (HKA.out.next (below_box w8 (.cells #[.int .u32 0, .int .u32 0, .int .u16 0, .int .u16 0, .int .u8 6] 37)))
    generalize w8.alloc (.cells #[.int .u32 0, .int .u32 0, .int .u16 0, .int .u16 0, .int .u8 6] 37) = w9 at hH HKL HKA ⊢
    generalize hgl : w8.heap.size = gl at HKL ⊢
    try simp only [Act.put, List.setIfInBounds_toArray, List.set_cons_zero, List.set_cons_succ]
    refine wpAnyH_ready (rs := [29]) (by kernel_rfl) (by simp) (AllReadyH.cons rfl (fun K hK => ?_) (AllReadyH.nil))
    go_simp
    go_at_call 21
    refine (R.same_any [ka] 1 rfl (by omega) _ _ _ _ _ _ _ HKA.out HKL.out).mono ?_
    rintro e w10 ⟨rfl, hbp⟩
    refine hK.out _ _ (Lib.hid (hH.out.next hbp)) (fun hH => ?_)
    clear hK K
    clear hbp HKA HKL
    try simp only [Act.put, List.setIfInBounds_toArray, List.set_cons_zero, List.set_cons_succ]
    refine wpAnyH_take (i := 30) (oi := ⟨some 72, _, _, _, _, _⟩) (v := ?v28) rfl (by kernel_rfl) (by kernel_rfl) (by kernel_rfl) (fun _ _ _ h => h) (Or.inl ⟨rfl, ?c28⟩) hH ?r28
    case c28 => (intro w' _; go_simp; (try with_reducible rfl))
    try simp only [Act.put, List.setIfInBounds_toArray, List.set_cons_zero, List.set_cons_succ]
    refine wpAnyH_take (i := 31) (oi := ⟨some 73, _, _, _, _, _⟩) (v := ?v29) rfl (by kernel_rfl) (by kernel_rfl) (by kernel_rfl) (fun _ _ _ h => h) (Or.inl ⟨rfl, ?c29⟩) hH ?r29
    case c29 => (intro w' _; go_simp; (try with_reducible rfl))
    try simp only [Act.put, List.setIfInBounds_toArray, List.set_cons_zero, List.set_cons_succ]
    refine wpAnyH_take (i := 32) (oi := ⟨some 74, _, _, _, _, _⟩) (v := ?v30) rfl (by kernel_rfl) (by kernel_rfl) (by kernel_rfl) (fun _ _ _ h => h) (Or.inl ⟨rfl, ?c30⟩) hH ?r30
    case c30 => (intro w' _; go_simp; (try with_reducible rfl))
    try simp only [Act.put, List.setIfInBounds_toArray, List.set_cons_zero, List.set_cons_succ]
    refine wpAnyH_ready (rs := [33]) (by kernel_rfl) (by simp) (AllReadyH.cons rfl (fun K hK => ?_) (AllReadyH.nil))
    go_simp
    go_at_call 27
    refine (Me.log_any hH.out.mem (by rw [n3_is]; omega)).mono ?_
    rintro e w11 ⟨vl, rfl, hl, -, hbp⟩
    obtain ⟨Al, cl, rfl, -, -⟩ := hl.len
    rw [n3_is]
    clear hl
    refine hK.out _ _ (Lib.hid (hH.out.next hbp)) (fun hH => ?_)
    clear hK K
    clear hbp
    try simp only [Act.put, List.setIfInBounds_toArray, List.set_cons_zero, List.set_cons_succ]
    refine wpAnyH_take (i := 34) (oi := ⟨some 76, _, _, _, _, _⟩) (v := ?v31) rfl (by kernel_rfl) (by kernel_rfl) (by kernel_rfl) (fun _ _ _ h => h) (Or.inl ⟨rfl, ?c31⟩) hH ?r31
    case c31 => (intro w' _; go_simp; (try with_reducible rfl))
    try simp only [Act.put, List.setIfInBounds_toArray, List.set_cons_zero, List.set_cons_succ]
    refine wpAnyH_take (i := 35) (oi := ⟨some 77, _, _, _, _, _⟩) (v := ?v32) rfl (by kernel_rfl) (by kernel_rfl) (by kernel_rfl) (fun _ _ _ h => h) (Or.inl ⟨rfl, ?c32⟩) hH ?r32
    case c32 => (intro w' _; go_simp; (try with_reducible rfl))
    try simp only [Act.put, List.setIfInBounds_toArray, List.set_cons_zero, List.set_cons_succ]
    refine wpAnyH_take (i := 36) (oi := ⟨some 78, _, _, _, _, _⟩) (v := ?v33) rfl (by kernel_rfl) (by kernel_rfl) (by kernel_rfl) (fun _ _ _ h => h) (Or.inl ⟨rfl, ?c33⟩) hH ?r33
    case c33 => (intro w' _; go_simp; (try with_reducible rfl))
    try simp only [Act.put, List.setIfInBounds_toArray, List.set_cons_zero, List.set_cons_succ]
    refine wpAnyH_take (i := 37) (oi := ⟨some 79, _, _, _, _, _⟩) (v := ?v34) rfl (by kernel_rfl) (by kernel_rfl) (by kernel_rfl) (fun _ _ _ h => h) (Or.inl ⟨rfl, ?c34⟩) hH ?r34
    case c34 => (intro w' _; go_simp; (try with_reducible rfl))
    try simp only [Act.put, List.setIfInBounds_toArray, List.set_cons_zero, List.set_cons_succ]
    refine wpAnyH_take (i := 38) (oi := ⟨some 80, _, _, _, _, _⟩) (v := ?v35) rfl (by kernel_rfl) (by kernel_rfl) (by kernel_rfl) (fun _ _ _ h => h) (Or.inl ⟨rfl, ?c35⟩) hH ?r35
    case c35 => (intro w' _; go_simp; (try with_reducible rfl))
    try simp only [Act.put, List.setIfInBounds_toArray, List.set_cons_zero, List.set_cons_succ]
    refine wpAnyH_ready (rs := [39]) (by kernel_rfl) (by simp) (AllReadyH.cons rfl (fun K hK => ?_) (AllReadyH.nil))
    go_simp
    go_at_call 8
    refine (new_no _ mb 3 (by omega) (by decide)).mono ?_
    rintro e w12 ⟨rfl, rfl⟩
    refine hK.out _ _ (hH) (fun hH => ?_)
    clear hK K
    try simp only [Act.put, List.setIfInBounds_toArray, List.set_cons_zero, List.set_cons_succ]
    refine wpAnyH_take (i := 40) (oi := ⟨some 82, _, _, _, _, _⟩) (v := ?v36) rfl (by kernel_rfl) (by kernel_rfl) (by kernel_rfl) (fun _ _ _ h => h) (Or.inl ⟨rfl, ?c36⟩) hH ?r36
    case c36 => (intro w' _; go_simp; (try with_reducible rfl))
    try simp only [Act.put, List.setIfInBounds_toArray, List.set_cons_zero, List.set_cons_succ]
    refine wpAnyH_take (i := 41) (oi := ⟨some 83, _, _, _, _, _⟩) (v := ?v37) rfl (by kernel_rfl) (by kernel_rfl) (by kernel_rfl) (fun _ _ _ h => h) (Or.inl ⟨rfl, ?c37⟩) hH ?r37
    case c37 => (intro w' _; go_simp; (try with_reducible rfl))
    try simp only [Act.put, List.setIfInBounds_toArray, List.set_cons_zero, List.set_cons_succ]
    refine wpAnyH_take (i := 42) (oi := ⟨some 0, _, _, _, _, _⟩) (v := ?v38) rfl (by kernel_rfl) (by kernel_rfl) (by kernel_rfl) (fun _ _ _ h => h) (Or.inl ⟨rfl, ?c38⟩) hH ?r38
    case c38 => (intro w' _; go_simp; (try with_reducible rfl))
    try simp only [Act.put, List.setIfInBounds_toArray, List.set_cons_zero, List.set_cons_succ]
    refine wpAnyH_done (by kernel_rfl) ?_ _
    have HBW := Lib.hid (HBE.out _ _ _ _ _ _ _ _ hH.out)
    clear hH
    go_wp2_with fail
    go_ret
    exact ⟨rfl, HBW.out⟩
  · go_simp
    refine hK.out _ _ (Lib.hid (hH.out.next (below_box _ _))) (fun hH => ?_)
    clear hK K
    have HKL : Hid (Kys ((w7.alloc (.cells #[.int .u32 0, .int .u32 0, .int .u16 0, .int .u16 0, .int .u8 6] 37)).drew) w7.heap.size (some ⟨w7.heap.size, 0, none⟩) [ka]) := Kys.next (lit_kys w7 ka) (Below.refl _ _).drew
    generalize (w7.alloc (.cells #[.int .u32 0, .int .u32 0, .int .u16 0, .int .u16 0, .int .u8 6] 37)).drew = w9 at hH HKL ⊢
    generalize hgl : w7.heap.size = gl at HKL ⊢
    try simp only [Act.put, List.setIfInBounds_toArray, List.set_cons_zero, List.set_cons_succ]
    refine wpAnyH_ready (rs := [26]) (by kernel_rfl) (by simp) (AllReadyH.cons rfl (fun K hK => ?_) (AllReadyH.nil))
    go_simp
    go_at_call 24
    refine (all_any hH.out (by show 1 ≤ _; omega)).mono ?_
    rintro e w8 ⟨p, c, rfl, hk, hbp⟩
    refine hK.out _ _ (Lib.hid (hH.out.next hbp)) (fun hH => ?_)
    clear hK K
    have HKA := Lib.hid hk
    clear hk
    replace HKL := Lib.hid (HKL.out.next hbp)
    clear hbp
    try simp only [Act.put, List.setIfInBounds_toArray, List.set_cons_zero, List.set_cons_succ]
    refine wpAnyH_ready (rs := [29]) (by kernel_rfl) (by simp) (AllReadyH.cons rfl (fun K hK => ?_) (AllReadyH.nil))
    go_simp
    go_at_call 21
    refine (R.same_any [ka] 1 rfl (by omega) _ _ _ _ _ _ _ HKA.out HKL.out).mono ?_
    rintro e w10 ⟨rfl, hbp⟩
    refine hK.out _ _ (Lib.hid (hH.out.next hbp)) (fun hH => ?_)
    clear hK K
    clear hbp HKA HKL
    try simp only [Act.put, List.setIfInBounds_toArray, List.set_cons_zero, List.set_cons_succ]
    refine wpAnyH_take (i := 30) (oi := ⟨some 72, _, _, _, _, _⟩) (v := ?v39) rfl (by kernel_rfl) (by kernel_rfl) (by kernel_rfl) (fun _ _ _ h => h) (Or.inl ⟨rfl, ?c39⟩) hH ?r39
    case c39 => (intro w' _; go_simp; (try with_reducible rfl))
    try simp only [Act.put, List.setIfInBounds_toArray, List.set_cons_zero, List.set_cons_succ]
    refine wpAnyH_take (i := 31) (oi := ⟨some 73, _, _, _, _, _⟩) (v := ?v40) rfl (by kernel_rfl) (by kernel_rfl) (by kernel_rfl) (fun _ _ _ h => h) (Or.inl ⟨rfl, ?c40⟩) hH ?r40
    case c40 => (intro w' _; go_simp; (try with_reducible rfl))
    try simp only [Act.put, List.setIfInBounds_toArray, List.set_cons_zero, List.set_cons_succ]
    refine wpAnyH_take (i := 32) (oi := ⟨some 74, _, _, _, _, _⟩) (v := ?v41) rfl (by kernel_rfl) (by kernel_rfl) (by kernel_rfl) (fun _ _ _ h => h) (Or.inl ⟨rfl, ?c41⟩) hH ?r41
    case c41 => (intro w' _; go_simp; (try with_reducible rfl))
    try simp only [Act.put, List.setIfInBounds_toArray, List.set_cons_zero, List.set_cons_succ]
    refine wpAnyH_ready (rs := [33]) (by kernel_rfl) (by simp) (AllReadyH.cons rfl (fun K hK => ?_) (AllReadyH.nil))
    go_simp
    go_at_call 27
    refine (Me.log_any hH.out.mem (by rw [n3_is]; omega)).mono ?_
    rintro e w11 ⟨vl, rfl, hl, -, hbp⟩
    obtain ⟨Al, cl, rfl, -, -⟩ := hl.len
    rw [n3_is]
    clear hl
    refine hK.out _ _ (Lib.hid (hH.out.next hbp)) (fun hH => ?_)
    clear hK K
    clear hbp
    try simp only [Act.put, List.setIfInBounds_toArray, List.set_cons_zero, List.set_cons_succ]
    refine wpAnyH_take (i := 34) (oi := ⟨some 76, _, _, _, _, _⟩) (v := ?v42) rfl (by kernel_rfl) (by kernel_rfl) (by kernel_rfl) (fun _ _ _ h => h) (Or.inl ⟨rfl, ?c42⟩) hH ?r42
    case c42 => (intro w' _; go_simp; (try with_reducible rfl))
    try simp only [Act.put, List.setIfInBounds_toArray, List.set_cons_zero, List.set_cons_succ]
    refine wpAnyH_take (i := 35) (oi := ⟨some 77, _, _, _, _, _⟩) (v := ?v43) rfl (by kernel_rfl) (by kernel_rfl) (by kernel_rfl) (fun _ _ _ h => h) (Or.inl ⟨rfl, ?c43⟩) hH ?r43
    case c43 => (intro w' _; go_simp; (try with_reducible rfl))
    try simp only [Act.put, List.setIfInBounds_toArray, List.set_cons_zero, List.set_cons_succ]
    refine wpAnyH_take (i := 36) (oi := ⟨some 78, _, _, _, _, _⟩) (v := ?v44) rfl (by kernel_rfl) (by kernel_rfl) (by kernel_rfl) (fun _ _ _ h => h) (Or.inl ⟨rfl, ?c44⟩) hH ?r44
    case c44 => (intro w' _; go_simp; (try with_reducible rfl))
    try simp only [Act.put, List.setIfInBounds_toArray, List.set_cons_zero, List.set_cons_succ]
    refine wpAnyH_take (i := 37) (oi := ⟨some 79, _, _, _, _, _⟩) (v := ?v45) rfl (by kernel_rfl) (by kernel_rfl) (by kernel_rfl) (fun _ _ _ h => h) (Or.inl ⟨rfl, ?c45⟩) hH ?r45
    case c45 => (intro w' _; go_simp; (try with_reducible rfl))
    try simp only [Act.put, List.setIfInBounds_toArray, List.set_cons_zero, List.set_cons_succ]
    refine wpAnyH_take (i := 38) (oi := ⟨some 80, _, _, _, _, _⟩) (v := ?v46) rfl (by kernel_rfl) (by kernel_rfl) (by kernel_rfl) (fun _ _ _ h => h) (Or.inl ⟨rfl, ?c46⟩) hH ?r46
    case c46 => (intro w' _; go_simp; (try with_reducible rfl))
    try simp only [Act.put, List.setIfInBounds_toArray, List.set_cons_zero, List.set_cons_succ]
    refine wpAnyH_ready (rs := [39]) (by kernel_rfl) (by simp) (AllReadyH.cons rfl (fun K hK => ?_) (AllReadyH.nil))
    go_simp
    go_at_call 8
    refine (new_no _ mb 3 (by omega) (by decide)).mono ?_
    rintro e w12 ⟨rfl, rfl⟩
    refine hK.out _ _ (hH) (fun hH => ?_)
    clear hK K
    try simp only [Act.put, List.setIfInBounds_toArray, List.set_cons_zero, List.set_cons_succ]
    refine wpAnyH_take (i := 40) (oi := ⟨some 82, _, _, _, _, _⟩) (v := ?v47) rfl (by kernel_rfl) (by kernel_rfl) (by kernel_rfl) (fun _ _ _ h => h) (Or.inl ⟨rfl, ?c47⟩) hH ?r47
    case c47 => (intro w' _; go_simp; (try with_reducible rfl))
    try simp only [Act.put, List.setIfInBounds_toArray, List.set_cons_zero, List.set_cons_succ]
    refine wpAnyH_take (i := 41) (oi := ⟨some 83, _, _, _, _, _⟩) (v := ?v48) rfl (by kernel_rfl) (by kernel_rfl) (by kernel_rfl) (fun _ _ _ h => h) (Or.inl ⟨rfl, ?c48⟩) hH ?r48
    case c48 => (intro w' _; go_simp; (try with_reducible rfl))
    try simp only [Act.put, List.setIfInBounds_toArray, List.set_cons_zero, List.set_cons_succ]
    refine wpAnyH_take (i := 42) (oi := ⟨some 0, _, _, _, _, _⟩) (v := ?v49) rfl (by kernel_rfl) (by kernel_rfl) (by kernel_rfl) (fun _ _ _ h => h) (Or.inl ⟨rfl, ?c49⟩) hH ?r49
    case c49 => (intro w' _; go_simp; (try with_reducible rfl))
    try simp only [Act.put, List.setIfInBounds_toArray, List.set_cons_zero, List.set_cons_succ]
    refine wpAnyH_done (by kernel_rfl) ?_ _
    have HBW := Lib.hid (HBE.out _ _ _ _ _ _ _ _ hH.out)
    clear hH
    go_wp2_with fail
    go_ret
    exact ⟨rfl, HBW.out⟩
end Tb
end Go.Proofs.Ytgcnhbjoalemlaa
