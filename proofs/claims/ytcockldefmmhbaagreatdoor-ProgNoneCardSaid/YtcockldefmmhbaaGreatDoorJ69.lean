/- Several texts of this proof in one file, each in its own namespace. -/
import Derived.Test.YtcockldefmmhbaaGreatDoorTabJ
import Derived.Test.YtcockldefmmhbaaGreatDoorJ66
import Derived.Test.YtcockldefmmhbaaGreatDoorShelf
import Derived.Shelf.GgSortFunc.Tiny
import Derived.Test.YtcockldefmmhbaaGreatDoorJ60
/- Layer 20: the sort of a table's keys. (Written by wip/tools/mkTabL.py out of XSorK, XSorL, XSorM, XAutQ.) -/
set_option linter.unusedVariables false
set_option linter.unusedSimpArgs false
set_option maxRecDepth 100000
namespace Go.Proofs.YtcockldefmmhbaaGreatDoor
open Go.ChangeShapes Go.WideShapes Go.ChangeAt Go.RowKit Go.Mtl Go.Lib
namespace Tb
open Au (KO encK ltK ltK_swo encK_len RowK RowK.at5 RowK.keep RowK.keepB RowK.swap RowK.put bar_put At5 less_is below_two key_kind encK_one swaps sorted_world key_kind2 list_kind sw_9 bitLen_small whole)
open Go.Shelf
open Go.Sort hiding Below
open AutM (Ke)
theorem few_perm {ks ls : List Ke} (h : ks.Perm ls) (hl : ls.length ≤ 1) : ks = ls := by
  match ls, hl with
  | [], _ => exact List.perm_nil.1 h
  | [k], _ => exact List.perm_singleton.1 h
theorem list_info : ∃ i, Tryz.prog.info? 42 = some i ∧ i.desc = .slice 87 := ⟨_, rfl, by kernel_rfl⟩
theorem key_info2 : ∃ i, Tryz.prog.info? 87 = some i := ⟨_, rfl⟩
theorem grow_below (w : World) (os : Array Obj) : Below w.heap.size w (Sort.grow w os) :=
  ⟨rfl, rfl, rfl, by simp [Sort.grow], fun k hk => by simp [Sort.grow, Array.getElem?_append_left hk]⟩
theorem sw_1 : Tryz.prog.funcs.findIdx? (fun x => x.name == "internal/reflectlite" ++ ".Swapper$" ++ toString 1) = some 224 := by kernel_rfl
theorem sw_2 : Tryz.prog.funcs.findIdx? (fun x => x.name == "internal/reflectlite" ++ ".Swapper$" ++ toString 2) = some 225 := by kernel_rfl
theorem sort_few (p : Option Addr) (n c : Nat) (h : n ≤ 1) (lf : Fn) (la lb : Array Value) (w : World) :
    Calls Tryz.prog 121 #[.iface 42 (.slice p n c), .func lf la lb] w fun e w' => e = .returned (.tuple #[]) ∧ Below w.heap.size w w' := by
  obtain ⟨i, hi, hd⟩ := list_info
  obtain ⟨ie, hie⟩ := key_info2
  have key : ∀ f, Tryz.prog.funcs.findIdx? (·.name == "internal/reflectlite" ++ ".Swapper$" ++ toString (swapperK n ie 25)) = some f → Calls Tryz.prog 121 #[.iface 42 (.slice p n c), .func lf la lb] w fun e w' => e = .returned (.tuple #[]) ∧ Below w.heap.size w w' := by
    intro f hf
    refine (Any.sort_Slice_tiny Tryz.laysGg6 42 87 i ie hi hd (by kernel_rfl) hie 25 (fun w => by kernel_rfl) p n c h f hf lf la lb w).mono ?_
    rintro e w' ⟨rfl, os, rfl⟩
    exact ⟨rfl, grow_below _ _⟩
  rcases Nat.eq_zero_or_pos n with h0 | h0
  · subst h0
    exact key 224 sw_1
  · obtain rfl : n = 1 := by omega
    exact key 225 sw_2
theorem own_later {W W' : World} {base : Nat} {e : TypeId} {size : Nat} {v : Value} {k : Nat} {xs : List Value} (h : W.ownsRow base e size v k xs) (hb : Below W.heap.size W W') : W'.ownsRow base e size v k xs :=
  h.kept (row := none) ⟨hb.1, hb.2, hb.3, hb.4, fun k hk _ => hb.5 k hk⟩ (by
    rcases h.2 with ⟨rfl, _⟩ | ⟨g, cap, cur, rfl, _⟩
    · exact .inl rfl
    · exact .inr (by simp [Value.ownBlock]))
set_option maxHeartbeats 2000000 in
theorem less_row {blk cb m n cap : Nat} {W : World} {d : Array KO} (H : RowK blk cb m n cap W d) (hn : n < 4611686018427387904) (i j : Nat) (hi : i < n) (hj : j < n) :
    Calls Tryz.prog 122 (#[.int .i64 i, .int .i64 j] ++ #[.pointer (some ⟨cb, 0, none⟩)]) W fun e w' => e = .returned (.bool (ltK d[i]! d[j]!)) ∧ Below W.heap.size W w' := by
  have Hi := Lib.hid hi
  have Hj := Lib.hid hj
  have HR := Lib.hid H
  have HL : Hid (∀ W, Calls Tryz.prog 123 #[.agg (Ky.kyc d[i]!.1.a d[i]!.1.b d[i]!.1.p d[i]!.1.q d[i]!.1.r), .agg (Ky.kyc d[j]!.1.a d[j]!.1.b d[j]!.1.p d[j]!.1.q d[j]!.1.r)] W fun e w' => e = .returned (.bool (ltK d[i]! d[j]!)) ∧ Below W.heap.size W w') := fun W =>
    Ky.less_any _ _ _ _ _ _ _ _ _ _ d[i]!.2.p d[i]!.2.q d[j]!.2.p d[j]!.2.q _ (less_is _ _) W
  clear H
  go_enter Tryz.func122, Tryz.ntmps122
  go_wp2_with fail
  refine wp_region_held_drew (S := fun w' => RowK blk cb m n cap w' d ∧ Below W.heap.size W w') (by kernel_rfl) (⟨HR.out.keepB (Below.refl _ W).drew, (Below.refl _ W).drew⟩) (fun hH => ?_)
  refine wpAnyH_take (i := 0) (oi := ⟨some 6, _, _, _, _, _⟩) (v := ?v1) rfl (by kernel_rfl) (by kernel_rfl) (by kernel_rfl) (fun _ _ _ h => h) (Or.inl ⟨rfl, ?c1⟩) hH ?r1
  case c1 => (intro w' hS; have cb := hS.1.box; go_simp; (try with_reducible rfl))
  try simp only [Act.put, List.setIfInBounds_toArray, List.set_cons_zero, List.set_cons_succ]
  refine wpAnyH_take (i := 1) (oi := ⟨some 7, _, _, _, _, _⟩) (v := ?v2) rfl (by kernel_rfl) (by kernel_rfl) (by kernel_rfl) (fun _ _ _ h => h) (Or.inl ⟨rfl, ?c2⟩) hH ?r2
  case c2 => (intro w' _; go_simp; (try with_reducible rfl))
  try simp only [Act.put, List.setIfInBounds_toArray, List.set_cons_zero, List.set_cons_succ]
  refine wpAnyH_take (i := 2) (oi := ⟨some 8, _, _, _, _, _⟩) (v := ?v3) rfl (by kernel_rfl) (by kernel_rfl) (by kernel_rfl) (fun _ _ _ h => h) (Or.inl ⟨rfl, ?c3⟩) hH ?r3
  case c3 => (intro w' hS; have hv := Hi.out; go_simp; (try with_reducible rfl))
  try simp only [Act.put, List.setIfInBounds_toArray, List.set_cons_zero, List.set_cons_succ]
  refine wpAnyH_take (i := 3) (oi := ⟨some 9, _, _, _, _, _⟩) (v := ?v4) rfl (by kernel_rfl) (by kernel_rfl) (by kernel_rfl) (fun _ _ _ h => h) (Or.inl ⟨rfl, ?c4⟩) hH ?r4
  case c4 => (intro w' hS; obtain ⟨x0, x1, x2, x3, x4⟩ := hS.1.at5 i Hi.out; go_simp; (try with_reducible rfl))
  try simp only [Act.put, List.setIfInBounds_toArray, List.set_cons_zero, List.set_cons_succ]
  refine wpAnyH_take (i := 4) (oi := ⟨some 10, _, _, _, _, _⟩) (v := ?v5) rfl (by kernel_rfl) (by kernel_rfl) (by kernel_rfl) (fun _ _ _ h => h) (Or.inl ⟨rfl, ?c5⟩) hH ?r5
  case c5 => (intro w' hS; have cb := hS.1.box; go_simp; (try with_reducible rfl))
  try simp only [Act.put, List.setIfInBounds_toArray, List.set_cons_zero, List.set_cons_succ]
  refine wpAnyH_take (i := 5) (oi := ⟨some 11, _, _, _, _, _⟩) (v := ?v6) rfl (by kernel_rfl) (by kernel_rfl) (by kernel_rfl) (fun _ _ _ h => h) (Or.inl ⟨rfl, ?c6⟩) hH ?r6
  case c6 => (intro w' _; go_simp; (try with_reducible rfl))
  try simp only [Act.put, List.setIfInBounds_toArray, List.set_cons_zero, List.set_cons_succ]
  refine wpAnyH_take (i := 6) (oi := ⟨some 12, _, _, _, _, _⟩) (v := ?v7) rfl (by kernel_rfl) (by kernel_rfl) (by kernel_rfl) (fun _ _ _ h => h) (Or.inl ⟨rfl, ?c7⟩) hH ?r7
  case c7 => (intro w' hS; have hv := Hj.out; go_simp; (try with_reducible rfl))
  try simp only [Act.put, List.setIfInBounds_toArray, List.set_cons_zero, List.set_cons_succ]
  refine wpAnyH_take (i := 7) (oi := ⟨some 13, _, _, _, _, _⟩) (v := ?v8) rfl (by kernel_rfl) (by kernel_rfl) (by kernel_rfl) (fun _ _ _ h => h) (Or.inl ⟨rfl, ?c8⟩) hH ?r8
  case c8 => (intro w' hS; obtain ⟨x0, x1, x2, x3, x4⟩ := hS.1.at5 j Hj.out; go_simp; (try with_reducible rfl))
  try simp only [Act.put, List.setIfInBounds_toArray, List.set_cons_zero, List.set_cons_succ]
  refine wpAnyH_ready (rs := [8]) (by kernel_rfl) (by simp) (AllReadyH.cons rfl (fun K hK => ?_) (AllReadyH.nil))
  go_simp
  go_at_call 123
  refine (HL.out _).mono ?_
  rintro e w2 ⟨rfl, hbp⟩
  refine hK.out _ _ (⟨hH.1.keepB hbp, below_two hH.2 hbp⟩) (fun hH => ?_)
  clear hK K
  clear hbp
  try simp only [Act.put, List.setIfInBounds_toArray, List.set_cons_zero, List.set_cons_succ]
  refine wpAnyH_take (i := 9) (oi := ⟨some 5, _, _, _, _, _⟩) (v := ?v9) rfl (by kernel_rfl) (by kernel_rfl) (by kernel_rfl) (fun _ _ _ h => h) (Or.inl ⟨rfl, ?c9⟩) hH ?r9
  case c9 => (intro w' _; go_simp; (try with_reducible rfl))
  try simp only [Act.put, List.setIfInBounds_toArray, List.set_cons_zero, List.set_cons_succ]
  refine wpAnyH_done (by kernel_rfl) ?_ _
  have HB := Lib.hid hH.2
  clear hH
  go_wp2_with fail
  go_ret
  exact ⟨rfl, HB.out⟩
theorem row_sortK (blk cb m n cap : Nat) (hne : cb ≠ blk) (hbm : blk < m) (hn : n < 4611686018427387904) :
    SortK Tryz.prog (RowK blk cb m n cap) blk m n ltK 122 #[.pointer (some ⟨cb, 0, none⟩)] 232 #[.slice (some ⟨blk, 0, none⟩) n cap, typeHandle Tryz.prog 87] where
  small := hn
  size := fun H => H.size
  bm := hbm
  at_ := fun H => H.le
  keep := fun H h hs => H.keep h hs
  enters := fun args w => rfl
  less := fun i j H hi hj => less_row H hn i j hi hj
  swap := fun {W d} i j H hi hj => ⟨_, swaps blk n cap W d H.holds H.size i j hi hj, (H.swap hne i j hi hj).1, (H.swap hne i j hi hj).2⟩
theorem row_blind (blk cb m n cap : Nat) (hne : cb ≠ blk) (hn : n < 4611686018427387904) :
    So.Blind (RowK blk cb m n cap) blk n #[.pointer (some ⟨cb, 0, none⟩)] #[.slice (some ⟨blk, 0, none⟩) n cap, typeHandle Tryz.prog 87] 122 232 where
  brk := fun {W d} lo hi H h1 h2 => by
    have hs := H.size
    subst hs
    refine (Any.breakPatterns_func_cells_w (P := Tryz.prog) { Tryz.laysGg6 with } encK 5 encK_len _ _ _ _ _ blk 0 lo hi d W (swaps blk d.size cap) H.holds (Nat.lt_of_lt_of_le H.bm H.le) h1 h2 hn).mono ?_
    rintro e w' ⟨rfl, q, os, rfl⟩
    exact ⟨rfl, sorted_world H hne (breakPatterns_holds d lo hi h1 h2).1 q os⟩
  rev := fun {W d} lo hi H h1 h2 => by
    have hs := H.size
    subst hs
    refine (Any.reverseRange_func_cells_w (P := Tryz.prog) { Tryz.laysGg6 with } encK 5 encK_len _ _ _ _ _ blk 0 lo hi d W (swaps blk d.size cap) H.holds (Nat.lt_of_lt_of_le H.bm H.le) h1 h2 hn).mono ?_
    rintro e w' ⟨rfl, q, os, rfl⟩
    exact ⟨rfl, sorted_world H hne (reverseRange_holds d lo hi h1 h2).1 q os⟩
theorem sort_keys {blk cb n cap : Nat} {W : World} {d : Array KO} (H : RowK blk cb W.heap.size n cap W d) (hne : cb ≠ blk) (h2 : 2 ≤ n) (hn : n < 4611686018427387904) :
    Calls Tryz.prog 121 #[.iface 42 (.slice (some ⟨blk, 0, none⟩) n cap), .func (.func 122) #[] #[.pointer (some ⟨cb, 0, none⟩)]] W fun e w' => e = .returned (.tuple #[]) ∧
      ∃ d' : Array KO, RowK blk cb W.heap.size n cap w' d' ∧ Bar blk W w' ∧ d'.toList.Perm d.toList ∧ SortedIn ltK 0 n d' := by
  obtain ⟨i, hi, hd⟩ := list_kind
  obtain ⟨ie, hie, hp, hby⟩ := key_kind2
  have hK : swapperK n ie 25 = 9 := by
    unfold swapperK
    rw [if_neg (by simp; omega), if_neg (by simp; omega)]
    simp [hp, hby]
  have hbl := H.bm
  refine Any.sort_Slice_of_pdq Tryz.laysGg6 42 87 i ie hi hd (by kernel_rfl) hie 25 (fun w => by kernel_rfl) (some ⟨blk, 0, none⟩) n cap hn 232 (by rw [hK]; exact sw_9) _ _ _ W _ ?_
  have hsb : sliceBound Tryz.prog 87 ie 25 (some ⟨blk, 0, none⟩) n cap = #[.slice (some ⟨blk, 0, none⟩) n cap, typeHandle Tryz.prog 87] := by
    unfold sliceBound
    rw [hK, if_neg (by omega)]
  rw [hsb]
  obtain ⟨W1, hW1⟩ : ∃ W1, W1 = sliceWorld Tryz.prog Tryz.laysGg6_ren 42 (some ⟨blk, 0, none⟩) n cap W := ⟨_, rfl⟩
  have hb1 : Below W.heap.size W W1 := by rw [hW1]; unfold sliceWorld; exact ((Below.refl _ W).alloc (Nat.le_refl _) _).alloc (by simp) _
  rw [← hW1]
  have H1 : RowK blk cb W.heap.size n cap W1 d := H.keep (fun j hj => hb1.block j hj) hb1.size
  refine (So.pdq_any ltK_swo (row_sortK blk cb W.heap.size n cap hne hbl hn) (row_blind blk cb W.heap.size n cap hne hn) (n + 1) W1 d 0 n (Lib.bitLen n) (by omega) H1 (by omega) (Nat.le_refl _) (bitLen_small n) (.inl rfl)).mono ?_
  rintro e w' ⟨rfl, ha, hbar⟩
  obtain ⟨hP, hS⟩ := pdq_holds insertionSort_holds heapSort_holds partialInsertionSort_holds (partition_holds ltK) (partitionEqual_holds ltK) reverseRange_holds ltK_swo d 0 n (Lib.bitLen n) true true (by omega) (by rw [H.size]; exact Nat.le_refl _) (.inl rfl)
  refine ⟨rfl, _, ha, (Bar.of_below hb1).trans hbar, ?_, hS⟩
  have hp3 := hP.2.2
  rw [whole d n H.size, whole _ n (hP.1.trans H.size)] at hp3
  exact hp3
end Tb
end Go.Proofs.YtcockldefmmhbaaGreatDoor
/- Layer 20: the program's sortedKeys. (Written by wip/tools/mkTabN.py.) -/
set_option linter.unusedVariables false
set_option linter.unusedSimpArgs false
set_option maxRecDepth 100000
namespace Go.Proofs.YtcockldefmmhbaaGreatDoor
open Go.ChangeShapes Go.WideShapes Go.ChangeAt Go.RowKit Go.Mtl Go.Lib
namespace Tb
open Au (KO encK ltK ltK_swo encK_len RowK RowK.at5 RowK.keep RowK.keepB RowK.swap RowK.put bar_put At5 less_is below_two)
open TabM
open MemM (Ms)
open Me (ptr)
open Go.Shelf
open Go.Sort hiding Below
/-- A slice that reads as these keys, in a block at or behind base. -/
def Kys (W : World) (base : Nat) (p : Option Addr) (ks : List AutM.Ke) : Prop := 0 < ks.length → ∃ g, p = some ⟨g, 0, none⟩ ∧ base ≤ g ∧ g < W.heap.size ∧ ∀ i k, ks[i]? = some k → At5 W g i k
theorem kcs_get (ks : List AutM.Ke) (i u : Nat) (k : AutM.Ke) (h : ks[i]? = some k) (hu : u < 5) : (kcs ks)[i * 5 + u]? = (k5 k)[u]? := by
  induction ks generalizing i with
  | nil => cases h
  | cons x ks ih =>
    have e : kcs (x :: ks) = k5 x ++ kcs ks := rfl
    rw [e]
    cases i with
    | zero =>
      obtain rfl : x = k := Option.some.inj h
      rw [Nat.zero_mul, Nat.zero_add, List.getElem?_append_left (by show u < 5; exact hu)]
    | succ i =>
      rw [List.getElem?_append_right (by show 5 ≤ (i + 1) * 5 + u; omega)]
      rw [show (i + 1) * 5 + u - (k5 x).length = i * 5 + u by show (i + 1) * 5 + u - 5 = i * 5 + u; omega]
      exact ih i h
theorem row_at {W : World} {g cap n : Nat} {cur : Array Value} {t : TypeId} {ks : List AutM.Ke} (hb : W.heap[g]? = some (.cells cur t (0, 0))) (ht : cur.toList.take (n * 5) = kcs ks) (hn : ks.length = n) (i u : Nat) (k : AutM.Ke) (h : ks[i]? = some k) (hu : u < 5) : W.cell? ⟨g, i * 5 + u, none⟩ = (k5 k)[u]? := by
  have hi : i < ks.length := (List.getElem?_eq_some_iff.1 h).1
  have h1 := kcs_get ks i u k h hu
  rw [← ht, List.getElem?_take_of_lt (by omega)] at h1
  rw [cell_of_row W g _ _ _ _ hb, ← h1]
  simp
theorem at5_of {W : World} {g i : Nat} {k : AutM.Ke} (h : ∀ u, u < 5 → W.cell? ⟨g, i * 5 + u, none⟩ = (k5 k)[u]?) : At5 W g i k :=
  ⟨h 0 (by omega), h 1 (by omega), h 2 (by omega), h 3 (by omega), h 4 (by omega)⟩
/-- What a row of the call's own gives. -/
theorem own_kys {W : World} {base n : Nat} {p : Option Addr} {c : Nat} {ks : List AutM.Ke} (h : W.ownsRow base 87 5 (.slice p n c) n (kcs ks)) (hn : ks.length = n) : Kys W base p ks := by
  intro hp
  rcases h.2 with ⟨_, h0⟩ | ⟨g, cap, cur, e, hbg, hb, _, _, _, ht⟩
  · omega
  · injection e with e1 _ _
    subst e1
    exact ⟨g, rfl, hbg, (Array.getElem?_eq_some_iff.1 hb).1, fun i k hk => at5_of fun u hu => row_at (cap := cap) hb ht hn i u k hk hu⟩
theorem lift_ok (ks : List AutM.Ke) (h : ∀ k ∈ ks, k.Ok) : ∃ d : List KO, d.map (·.1) = ks := by
  induction ks with
  | nil => exact ⟨[], rfl⟩
  | cons k ks ih =>
    obtain ⟨d, hd⟩ := ih fun x hx => h x (List.mem_cons_of_mem _ hx)
    exact ⟨⟨k, h k List.mem_cons_self⟩ :: d, by rw [List.map_cons, hd]⟩
theorem holds_own {W : World} {g cap n : Nat} {cur : Array Value} {t : TypeId} {d : List KO} (hb : W.heap[g]? = some (.cells cur t (0, 0))) (ht : cur.toList.take (n * 5) = kcs (d.map (·.1))) (hn : d.length = n) : HoldsK encK 5 W g 0 d.toArray := by
  intro q hq
  have hq2 : q < d.toArray.size * 5 := by simpa using hq
  have hq3 : q < d.length * 5 := by simpa using hq2
  have hi : q / 5 < d.length := by omega
  rw [get_flatK encK 5 d.toArray q hq2]
  refine ⟨?_, by simp [World.frozen?, hb]⟩
  have h1 : (d.map (·.1))[q / 5]? = some d[q / 5].1 := by rw [List.getElem?_map, List.getElem?_eq_getElem hi]; rfl
  have h2 := row_at (cap := cap) hb ht (by rw [List.length_map]; exact hn) (q / 5) (q % 5) _ h1 (by omega)
  rw [show q / 5 * 5 + q % 5 = q by omega] at h2
  rw [Nat.zero_add, h2]
  have e : d.toArray[q / 5]! = d[q / 5] := by simp [hi]
  rw [e]
  have hm : q % 5 < 5 := by omega
  obtain h | h | h | h | h : q % 5 = 0 ∨ q % 5 = 1 ∨ q % 5 = 2 ∨ q % 5 = 3 ∨ q % 5 = 4 := by omega
  all_goals rw [h]; rfl
theorem sorted_keys {fs : List Fl} {n : Nat} {d d' : Array KO} {ks : List AutM.Ke} (ho : Oks fs) (hk : ks.Perm (fs.map (·.k))) (hd : d.toList.map (·.1) = ks) (hp : d'.toList.Perm d.toList) (hs : SortedIn ltK 0 n d') (hn : d'.size = n) : d'.toList.map (·.1) = fs.map (·.k) := by
  refine keys_of_perm ho (((hp.map (·.1)).trans (by rw [hd])).trans hk) ?_
  rw [List.pairwise_map, List.pairwise_iff_getElem]
  intro i j hi hj hij
  have h := hs i j (Nat.zero_le _) hij (by rw [← hn]; simpa using hj)
  unfold ltK at h
  have hj2 : j < d'.size := by simpa using hj
  have hi2 : i < d'.size := by simpa using hi
  rw [getElem!_pos d' i hi2, getElem!_pos d' j hj2] at h
  simpa using h
/-- All flows of the first j stripes. -/
def flat (ps : Nat → List Fl) (j : Nat) : List Fl := (List.range j).flatMap ps
theorem flat_succ (ps : Nat → List Fl) (j : Nat) : flat ps (j + 1) = flat ps j ++ ps j := by
  unfold flat
  rw [List.range_succ, List.flatMap_append, List.flatMap_cons, List.flatMap_nil, List.append_nil]
theorem flat_len (ps : Nat → List Fl) {i m : Nat} (h : i < m) : (flat ps i).length + (ps i).length ≤ (flat ps m).length := by
  induction m with
  | zero => omega
  | succ m ih =>
    rw [flat_succ, List.length_append]
    by_cases e : i = m
    · subst e; exact Nat.le_refl _
    · have := ih (by omega); omega
/-- What the loop keeps: the keys of the first j stripes, in a row of the call's own; the box of the list. -/
structure SK (w0 : World) (ps : Nat → List Fl) (j : Nat) (A : Option Addr) (n c : Nat) (ks : List AutM.Ke) (W : World) : Prop where
  box : W.heap[w0.heap.size]? = some (.cells #[.slice A n c] 42 (0, 0))
  row : W.ownsRow (w0.heap.size + 1) 87 5 (.slice A n c) n (kcs ks)
  len : ks.length = n
  perm : ks.Perm ((flat ps j).map (·.k))
  bel : Below w0.heap.size w0 W
set_option maxHeartbeats 4000000 in
theorem sortedKeys_cap (w : World) (S off m c : Nat) (M : Nat → Nat) (ps : Nat → List Fl) (gs : List Fl) (hm : m ≤ 4096) (hmc : m ≤ c ∧ c ≤ 4096) (hS : S < w.heap.size) (hrow : ∀ i, i < m → w.cell? ⟨S, off + i, none⟩ = some (.map (some (M i)))) (hmap : ∀ i, i < m → MapAt w (M i) (ps i)) (ho : Oks gs) (hp : (flat ps m).Perm gs) (hl : gs.length ≤ 100000) :
    Calls Tryz.prog 84 #[.slice (some ⟨S, off, none⟩) m c] w fun e w' => ∃ p c', e = .returned (.slice p gs.length c') ∧ (gs.length ≤ c' ∧ c' ≤ 9223372036854775807) ∧ Kys w' w.heap.size p (gs.map (·.k)) ∧ Below w.heap.size w w' := by
  have HROW := Lib.hid hrow
  have HMAP := Lib.hid hmap
  have HS := Lib.hid hS
  have HO := Lib.hid ho
  have HP := Lib.hid hp
  have HL := Lib.hid hl
  have HFL : Hid (∀ i, i < m → (flat ps i).length + (ps i).length ≤ 100000) := fun i hi => by have h1 := flat_len ps hi; have h2 := hp.length_eq; omega
  have h0 : SK w ps 0 none 0 0 [] (w.alloc (.cells #[.slice none 0 0] 42)) := ⟨heap_alloc_new w _, ⟨rfl, .inl ⟨rfl, rfl⟩⟩, rfl, List.Perm.refl _, below_box _ _⟩
  have H0 := Lib.hid h0
  obtain ⟨hmc1, hmc2⟩ := hmc
  clear hrow hmap ho hp hl h0 hS
  go_enter Tryz.func84, Tryz.ntmps84
  go_wp2_with fail
  go_loopw [8] (fun vi wr => ∃ (j : Nat) (A : Option Addr) (n c' : Nat) (ks : List AutM.Ke), vi = .int .i64 (j : Int) ∧ j ≤ m ∧ Hid (SK w ps j A n c' ks wr)) (fun vi _ => m - (RowKit.intOf vi).toNat)
  case atStart => exact ⟨0, none, 0, 0, [], rfl, Nat.zero_le _, H0⟩
  case round =>
    clear H0
    obtain ⟨j, A, n, c2, ks, rfl, hj, HK⟩ := hrel
    by_cases h1 : j < m
    · as_aux_lemma =>
        have cm := (HK.out.bel.cell (p := ⟨S, off + j, none⟩) HS.out).trans (HROW.out j h1)
        have HMJ := Lib.hid ((HMAP.out j h1).keep (HK.out.bel.block _ (HMAP.out j h1).lt))
        have HPJ : Hid ((ps j).length ≤ 100000) := by show _ ≤ _; have := HFL.out j h1; omega
        have HN : Hid (n ≤ 1000000) := by show _ ≤ _; have h2 := HFL.out j h1; have h3 := HK.out.perm.length_eq; have h4 := HK.out.len; rw [List.length_map] at h3; omega
        go_wp2_with fail
        clear cm
        refine region_e (S := fun w' => Hid (w'.heap[w.heap.size]? = some (.cells #[.slice A n c2] 42 (0, 0)))) 4 (by kernel_rfl) (Lib.hid HK.out.box) (fun hH => ?_)
        refine anyE_take (i := 0) (oi := ⟨some 12, _, _, _, _, _⟩) (v := ?v1) rfl (by kernel_rfl) (by kernel_rfl) (by kernel_rfl) (by kernel_rfl) (fun _ _ _ h => h) (Or.inl ⟨rfl, ?c1⟩) hH ?r1
        case c1 => (intro w' hS; have y0 := (box_cell hS.out).1; go_simp; (try with_reducible rfl))
        try simp only [Act.put, List.setIfInBounds_toArray, List.set_cons_zero, List.set_cons_succ]
        refine anyE_take (i := 1) (oi := ⟨some 13, _, _, _, _, _⟩) (v := ?v2) rfl (by kernel_rfl) (by kernel_rfl) (by kernel_rfl) (by kernel_rfl) (fun _ _ _ h => h) (Or.inl ⟨rfl, ?c2⟩) hH ?r2
        case c2 => (intro w' _; go_simp; (try with_reducible rfl))
        try simp only [Act.put, List.setIfInBounds_toArray, List.set_cons_zero, List.set_cons_succ]
        refine anyE_ready (rs := [2]) (by kernel_rfl) (by simp) (AllE.cons rfl (fun K hK => ?_) (AllE.nil))
        go_simp
        go_at_call 120
        refine (maps_any (M j) _).mono ?_
        rintro e w2 ⟨rfl, hw2⟩
        have HW2 : Hid (Below wr.heap.size wr w2) := by show Below _ _ _; rw [hw2]; exact (Below.refl _ wr).drew.alloc (Nat.le_refl _) _
        have HC2 : Hid (w2.cell? ⟨wr.heap.size, 0, none⟩ = some (.map (some (M j)))) := by show _ = _; rw [hw2]; exact (Blk.box wr.drew #[.map (some (M j))] 133).cell 0 _ rfl
        clear hw2
        refine hK.out _ _ (Lib.hid ((HW2.out.block _ (Array.getElem?_eq_some_iff.1 HK.out.box).1).trans HK.out.box)) (fun hH => ?_)
        clear hK K
        try simp only [Act.put, List.setIfInBounds_toArray, List.set_cons_zero, List.set_cons_succ]
        refine anyE_ready (rs := [3]) (by kernel_rfl) (by simp) (AllE.cons rfl (fun K hK => ?_) (AllE.nil))
        go_simp
        go_at_call 119
        refine (appended (base := w.heap.size + 1) HC2.out ((HMJ.out).keep (HW2.out.block _ HMJ.out.lt)) HPJ.out (Nat.le_trans (by have := (Array.getElem?_eq_some_iff.1 HK.out.box).1; omega) HW2.out.size) A n c2 ks HK.out.len HN.out (row_keep HK.out.row fun g e => HW2.out.block g (HK.out.row.lt g e).2)).mono ?_
        rintro e w3 ⟨v3, ks3, rfl, hp3, hr3, hb3⟩
        obtain ⟨A3, c3, rfl, -, -⟩ := row_form hr3
        rw [List.length_append, HK.out.len] at hr3
        rw [List.length_append, HK.out.len]
        refine hK.out _ _ (Lib.hid ((hb3.block _ (Nat.lt_succ_self _)).trans hH.out)) (fun hH => ?_)
        clear hK K
        have HP3 := Lib.hid hp3
        have HR3 := Lib.hid hr3
        have HB3 := Lib.hid hb3
        clear hp3 hr3 hb3
        try simp only [Act.put, List.setIfInBounds_toArray, List.set_cons_zero, List.set_cons_succ]
        refine anyE_ready (rs := [4]) (by kernel_rfl) (by simp) (AllE.end_ rfl (fun K hK => ?_))
        have y0 := (box_cell hH.out).1
        have f0 := (box_cell hH.out).2
        go_simp
        clear y0 f0
        refine hK.out _ _ ?_
        clear hK K
        try simp only [Act.put, List.setIfInBounds_toArray, List.set_cons_zero, List.set_cons_succ]
        refine anyE_done (by kernel_rfl) ?_ _
        have HSK : Hid (SK w ps (j + 1) A3 (n + ks3.length) c3 (ks ++ ks3) (w3.setCell ⟨w.heap.size, 0, none⟩ (.slice A3 (n + ks3.length) c3))) := by
          have hb3 : Below w.heap.size w w3 := (HK.out.bel.trans (HW2.out.mono HK.out.bel.size)).trans (HB3.out.mono (Nat.le_succ _))
          refine ⟨box_set _ hH.out, row_keep HR3.out fun g e => Below.heap_setCell _ _ _ _ (fun e2 => by have h5 := (HR3.out.lt g e).1; have e3 : g = w.heap.size := e2; omega), by rw [List.length_append, HK.out.len], ?_, hb3.setCell (p := ⟨w.heap.size, 0, none⟩) (Nat.le_refl _) _⟩
          rw [flat_succ, List.map_append]
          exact HK.out.perm.append HP3.out
        clear hH HP3 HR3 HB3 HC2 HW2 HMJ HPJ HN
        go_wp2_with fail
        go_roundw
        case rel => exact ⟨j + 1, A3, n + ks3.length, c3, ks ++ ks3, by go_num, by omega, HSK⟩
        case measure => simp [RowKit.intOf]; omega
    · obtain rfl : j = m := by omega
      have hng : n = gs.length := by have h3 := HK.out.perm.length_eq; have h4 := HK.out.len; have h5 := HP.out.length_eq; rw [List.length_map] at h3; omega
      have HNG := Lib.hid hng
      have HCB : Hid (n ≤ c2 ∧ c2 ≤ 9223372036854775807) := by
        obtain ⟨A', c', e, h1, h2⟩ := row_form HK.out.row
        injection e with _ _ e
        subst e
        exact ⟨h1, h2⟩
      have hper : ks.Perm (gs.map (·.k)) := HK.out.perm.trans (HP.out.map _)
      have HPER := Lib.hid hper
      have hbx := (box_cell HK.out.box).1
      clear hper hng
      by_cases h2 : n ≤ 1
      · have hk := few_perm HPER.out (by rw [List.length_map, ← HNG.out]; exact h2)
        have HKY := Lib.hid hk
        clear hk
        go_wp2_with fail
        clear hbx
        go_at_call 121
        refine (sort_few A n c2 h2 _ _ _ _).mono ?_
        rintro e w3 ⟨rfl, hb⟩
        have hbx := (box_cell ((hb.block _ (Array.getElem?_eq_some_iff.1 HK.out.box).1).trans HK.out.box)).1
        have HR3 := Lib.hid (own_later HK.out.row hb)
        have HB3 := Lib.hid (HK.out.bel.trans (hb.mono HK.out.bel.size))
        clear hb
        go_wp2_with fail
        go_ret
        refine ⟨A, c2, by rw [← HNG.out]; rfl, HNG.out ▸ HCB.out, ?_, HB3.out⟩
        have h := own_kys HR3.out HK.out.len
        rw [HKY.out] at h
        intro hp0
        obtain ⟨g, e1, e2, e3, e4⟩ := h hp0
        exact ⟨g, e1, by omega, e3, e4⟩
      · have hok : ∀ k ∈ ks, k.Ok := fun k hk => by
          obtain ⟨f, hf, rfl⟩ := List.mem_map.1 (HPER.out.mem_iff.1 hk)
          exact (HO.out.ok f hf).k
        obtain ⟨d, hd⟩ := lift_ok ks hok
        rcases HK.out.row.2 with ⟨_, h0⟩ | ⟨g, cap, cur, hv, hbg, hgb, hle, hcm, hsz, ht⟩
        · exact absurd h0 (by omega)
        injection hv with hv1 _ hv3
        subst hv1 hv3
        have hgl : g < wr.heap.size := (Array.getElem?_eq_some_iff.1 hgb).1
        have hdn : d.length = n := by rw [← HK.out.len, ← hd, List.length_map]
        have HR : Hid (RowK g w.heap.size wr.heap.size n c2 wr d.toArray) :=
          ⟨holds_own (cap := c2) hgb (by rw [hd]; exact ht) hdn, by simpa using hdn, hbx, Nat.le_refl _, hgl, (Array.getElem?_eq_some_iff.1 HK.out.box).1⟩
        have HS := Lib.hid (sort_keys HR.out (by omega) (by omega) (by have := HNG.out; have := HL.out; omega))
        have HFIN : Hid (∀ w4 (d' : Array KO), RowK g w.heap.size wr.heap.size n c2 w4 d' → Bar g wr w4 → d'.toList.Perm d.toArray.toList → SortedIn ltK 0 n d' →
            Kys w4 w.heap.size (some ⟨g, 0, none⟩) (gs.map (·.k)) ∧ Below w.heap.size w w4) := by
          intro w4 d' hr hbar hper hsrt
          have hks := sorted_keys HO.out HPER.out (d := d.toArray) (by simpa using hd) hper hsrt hr.size
          refine ⟨fun _ => ⟨g, rfl, by omega, by have := hr.le; have := hr.bm; omega, fun i k hk => ?_⟩, HK.out.bel.trans ((So.Bar.to_below hbar (by omega) HK.out.bel.size))⟩
          rw [← hks, List.getElem?_map] at hk
          obtain ⟨x, hx, rfl⟩ := Option.map_eq_some_iff.1 hk
          have hi : i < d'.size := by have := (List.getElem?_eq_some_iff.1 hx).1; simpa using this
          have h5 := hr.at5 i (by rw [← hr.size]; exact hi)
          have e : d'[i]! = x := by
            rw [getElem!_pos d' i hi]
            have := (List.getElem?_eq_some_iff.1 hx).2
            simpa using this
          rw [e] at h5
          exact h5
        clear hok hd hbg hgb hle hcm hsz ht hgl hdn HR
        go_wp2_with fail
        clear hbx
        go_at_call 121
        refine HS.out.mono ?_
        rintro e w4 ⟨rfl, d', hr, hbar, hper, hsrt⟩
        have hbx := hr.box
        obtain ⟨f2, f3⟩ := HFIN.out w4 d' hr hbar hper hsrt
        have F2 := Lib.hid f2
        have F3 := Lib.hid f3
        clear hr hbar hper hsrt f2 f3 HFIN HS
        go_wp2_with fail
        go_ret
        exact ⟨some ⟨g, 0, none⟩, c2, by rw [← HNG.out]; rfl, HNG.out ▸ HCB.out, F2.out, F3.out⟩
end Tb
end Go.Proofs.YtcockldefmmhbaaGreatDoor
/- Layer 20: the program's Keys and All. -/
set_option linter.unusedVariables false
set_option linter.unusedSimpArgs false
set_option maxRecDepth 100000
namespace Go.Proofs.YtcockldefmmhbaaGreatDoor
open Go.ChangeShapes Go.WideShapes Go.ChangeAt Go.RowKit Go.Mtl Go.Lib
namespace Tb
open TabM
open KeyM (isPow)
open MemM (Ms touchS)
open Me (ptr)
section
variable {w : Fw} {W : World} {Om Ot : Nat → Prop} {mb B : Nat} {ms : Ms} {n : Nat} {fs : List Fl}
theorem keys_arg (H : TM w Om Ot mb B ms n fs W) (t s : Int) (hs : s < 0 ∨ (n : Int) ≤ s) : Calls Tryz.prog 118 #[ptr B, .int .i64 t, .int .i64 s] W fun e w' => e = .returned (.tuple #[.slice none 0 0, .int .i64 1]) ∧ W = w' := by
  obtain ⟨⟨S, M, htr⟩, ho, hp⟩ := H.tab
  have c1 := htr.blk.cell 1 _ rfl
  by_cases h0 : s < 0
  · have d1 : decide (s < 0) = true := decide_eq_true h0
    clear H htr ho hp hs h0
    go_enter Tryz.func118, Tryz.ntmps118
    go_wp2_with fail
    go_ret2
    exact ⟨rfl, rfl⟩
  · have d1 : decide (s < 0) = false := decide_eq_false h0
    have d2 : decide ((n : Int) ≤ s) = true := decide_eq_true (by omega)
    clear H htr ho hp hs h0
    go_enter Tryz.func118, Tryz.ntmps118
    go_wp2_with fail
    go_ret2
    exact ⟨rfl, rfl⟩
theorem keys_no (H : TM w Om Ot mb B ms n fs W) (t : Int) (i : Nat) (hi : i < n) (hh : heldB ms t (i : Int) = false) : Calls Tryz.prog 118 #[ptr B, .int .i64 t, .int .i64 (i : Int)] W fun e w' => e = .returned (.tuple #[.slice none 0 0, .int .i64 13]) ∧ W = w' := by
  have HH := Lib.hid (holds_any H t (i : Int))
  rw [hh] at HH
  obtain ⟨⟨S, M, htr⟩, ho, hp⟩ := H.tab
  have hn := H.tab.pos
  have c1 := htr.blk.cell 1 _ rfl
  have d1 : decide ((i : Int) < 0) = false := decide_eq_false (by omega)
  have d2 : decide ((n : Int) ≤ (i : Int)) = false := decide_eq_false (by omega)
  clear H htr ho hp hh
  go_enter Tryz.func118, Tryz.ntmps118
  go_wp2_with fail
  go_at_call 173
  refine HH.out.mono ?_
  rintro e w2 ⟨rfl, rfl⟩
  go_wp2_with fail
  go_ret2
  exact ⟨rfl, rfl⟩
set_option maxHeartbeats 1000000 in
theorem keys_cap (H : TM w Om Ot mb B ms n fs W) (hml : ms.ls.length ≤ 1000000000000) (hl : fs.length ≤ 100000) (t : Int) (i : Nat) (hi : i < n) (hh : heldB ms t (i : Int) = true) :
    Calls Tryz.prog 118 #[ptr B, .int .i64 t, .int .i64 (i : Int)] W fun e w' => ∃ p c Om' B0, e = .returned (.tuple #[.slice p (part n i fs).length c, .int .i64 0]) ∧ ((part n i fs).length ≤ c ∧ c ≤ 9223372036854775807) ∧ Kys w' B0 p ((part n i fs).map (·.k)) ∧ (∀ j, Om' j → j < B0) ∧ W.heap.size ≤ B0 ∧ TM w Om' Ot mb B (touchS ms t 5 (i : Int)) n fs w' := by
  have HH := Lib.hid (holds_any H t (i : Int))
  rw [hh] at HH
  have H1 := Lib.hid H
  obtain ⟨⟨S, M, htr⟩, ho, hp⟩ := H.tab
  have hn := H.tab.pos
  have HPL : Hid ((part n i fs).length ≤ 100000) := Nat.le_trans (List.length_filter_le _ _) hl
  have HOK := Lib.hid ho
  have HML := Lib.hid hml
  have c0 := htr.blk.cell 0 _ rfl
  have c1 := htr.blk.cell 1 _ rfl
  have d1 : decide ((i : Int) < 0) = false := decide_eq_false (by omega)
  have d2 : decide ((n : Int) ≤ (i : Int)) = false := decide_eq_false (by omega)
  clear H htr ho hp hh hl hml
  go_enter Tryz.func118, Tryz.ntmps118
  go_wp2_with fail
  go_at_call 173
  refine HH.out.mono ?_
  rintro e w2 ⟨rfl, rfl⟩
  go_wp2_with fail
  clear c0 c1
  go_at_call 174
  refine (Me.read_any H1.out.mem t (i : Int) HML.out).mono ?_
  rintro e w3 ⟨Om2, rfl, hp, ho, hO⟩
  have H3 := Lib.hid (H1.out.left hp ho hO)
  have HSZ := Lib.hid ho.size
  have HLT := Lib.hid H3.out.mem.lt
  clear hp ho hO H1
  obtain ⟨⟨S, M, htr⟩, _⟩ := H3.out.tab
  have c1 := htr.blk.cell 1 _ rfl
  have HTR := Lib.hid htr
  clear htr
  go_wp2_with fail
  clear c1
  go_at_call 84
  refine (sortedKeys_cap w3 S i 1 (n - i) (fun _ => M i) (fun _ => part n i fs) (part n i fs) (by omega) ⟨by omega, by omega⟩ (HTR.out.lt _ HTR.out.os) (fun j hj => by obtain rfl : j = 0 := (by omega); rw [Nat.add_zero]; exact HTR.out.row i hi) (fun _ _ => HTR.out.map i hi) (oks_part HOK.out _ _) (by rw [flat_succ]; exact List.Perm.refl _) HPL.out).mono ?_
  rintro e w4 ⟨p, c, rfl, hcb, hk, hb⟩
  have HCB := Lib.hid hcb
  have HK := Lib.hid hk
  have H4 := Lib.hid (H3.out.next hb)
  clear hk hb hcb H3 HTR
  go_wp2_with fail
  go_ret2
  exact ⟨p, c, Om2, _, rfl, HCB.out, HK.out, HLT.out, HSZ.out, H4.out⟩
end
end Tb
end Go.Proofs.YtcockldefmmhbaaGreatDoor
