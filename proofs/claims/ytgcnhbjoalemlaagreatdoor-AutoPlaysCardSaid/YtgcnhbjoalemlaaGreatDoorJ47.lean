/- Several texts of this proof in one file, each in its own namespace. -/
import Derived.Test.YtgcnhbjoalemlaaGreatDoorAutI
import Derived.Test.YtgcnhbjoalemlaaGreatDoorComM
import Derived.Test.YtgcnhbjoalemlaaGreatDoorJ41
import Derived.OwnWalk
import Derived.Test.YtgcnhbjoalemlaaGreatDoorJ42
import Derived.Test.YtgcnhbjoalemlaaGreatDoorShelf
import Derived.Shelf.GgSortFunc.Tiny
import Derived.Test.YtgcnhbjoalemlaaGreatDoorJ43
/- Layer 18: maps.Keys, slices.AppendSeq, slices.Collect over the program's map. -/
set_option linter.unusedVariables false
set_option linter.unusedSimpArgs false
set_option maxRecDepth 100000
namespace Go.Proofs.YtgcnhbjoalemlaaGreatDoor
open Go.ChangeShapes Go.WideShapes Go.ChangeAt Go.RowKit Go.Mtl Go.Lib
namespace Au
open AutM

abbrev k5 (k : Ke) : List Value := [.int .u32 (k.a : Int), .int .u32 (k.b : Int), .int .u16 (k.p : Int), .int .u16 (k.q : Int), .int .u8 (k.r : Int)]
def kcs (ks : List Ke) : List Value := ks.flatMap k5
theorem kcs_add (ks : List Ke) (k : Ke) : kcs (ks ++ [k]) = kcs ks ++ k5 k := by unfold kcs; rw [List.flatMap_append]; rfl
theorem k5_one (k : Ke) : ∀ u ∈ k5 k, u.oneCell' = true := by
  intro u hu
  simp only [k5, List.mem_cons, List.not_mem_nil, or_false] at hu
  rcases hu with rfl | rfl | rfl | rfl | rfl <;> rfl
theorem k5_new (w : World) (k : Ke) (t : TypeId) : ∀ j u, (k5 k)[j]? = some u → (w.alloc (.cells (k5 k).toArray t)).cell? ((⟨w.heap.size, 0, none⟩ : Addr).add j) = some u := by
  intro j u h
  have := (Blk.box w (k5 k).toArray t).cell j u (by simpa using h)
  unfold Addr.add
  split
  · rename_i hj; subst hj; exact this
  · simpa using this
/-- What the loop of AppendSeq keeps: what has come lies in a row of its own, boxed in block B. -/
def ApAt (w : World) (ks : List Ke) (W : World) : Prop :=
  (∃ v, W.heap[w.heap.size]? = some (.cells #[v] 74 (0, 0)) ∧ W.ownsRow w.heap.size 45 5 v ks.length (kcs ks)) ∧ Below w.heap.size w W
theorem slice_key : Tryz.prog.underlying 74 = some (.slice 45) := by kernel_rfl
theorem own_abides {W W' : World} {row : Option Nat} {base : Nat} {e : TypeId} {size : Nat} {v : Value} {k : Nat} {xs : List Value} (h : W.ownsRow base e size v k xs) (hg : W.grownBy W' row)
    (hrow : ∀ r, row = some r → ∃ o : Obj, W.heap[r]? = some o ∧ o.isCells = false) : W'.ownsRow base e size v k xs := by
  refine h.kept hg ?_
  rcases h.2 with ⟨rfl, _⟩ | ⟨g, cap, cur, rfl, _, hgb, _⟩
  · exact .inl rfl
  · refine .inr fun e' => ?_
    obtain ⟨o, ho, hw⟩ := hrow g (by simpa [Value.ownBlock] using e'.symm)
    rw [hgb] at ho; cases ho; cases hw
theorem ap_own (w : World) (B : Nat) (hB : w.heap.size ≤ B) : OwnFrom B (ApAt w) := by
  rintro ks W W' row ⟨⟨v, hv, ho⟩, hb⟩ hg hr
  refine ⟨⟨v, ?_, own_abides ho hg fun r e => (hr r e).2⟩, hb.grown hg hb.size fun k e => Nat.le_trans hB (hr k e).1⟩
  exact (grownBy_keeps_cells hg (fun r e => (hr r e).2) hv rfl).trans hv
/-- The iterator's value that maps.Keys hands back gives the map's keys. -/
theorem keys_give {w : World} {Bm M : Nat} {fs : List Fl} (hm : w.cell? ⟨Bm, 0, none⟩ = some (.map (some M))) (hM : MapAt w M fs) (n : Nat) (hn : 1 ≤ n) :
    SeqGives Fence.wide n Tryz.prog 79 #[.pointer (some ⟨Bm, 0, none⟩)] kyV (fun ks => ks.Perm (fs.map (·.k))) fs.length w := by
  intro l J W hW hJ hY h0
  have hB : Bm < w.heap.size := by
    obtain ⟨o, ho, _⟩ := cells_of_cell hm
    exact (Array.getElem?_eq_some_iff.1 ho).1
  exact iter_any n hn l Bm M fs J W hY hJ ((hW.cell (p := ⟨Bm, 0, none⟩) hB).trans hm) (hM.keep (hW.block _ hM.lt)) h0

theorem key_info : (Tryz.prog.info? 45).map (fun i => (i.zero, i.size, i.bytes)) = some (some (.agg #[.int .u32 0, .int .u32 0, .int .u16 0, .int .u16 0, .int .u8 0]), 5, 16) := by kernel_rfl
theorem grown_set (W : World) (b : Nat) (v : Value) : W.grownBy (W.setCell ⟨b, 0, none⟩ v) (some b) :=
  ⟨rfl, rfl, rfl, (KeepsWalks.setCell W _ v).size, fun k _ hk => Below.heap_setCell _ _ _ k (fun e => hk (by rw [e]))⟩
theorem own_not {W : World} {base : Nat} {e : TypeId} {size : Nat} {v : Value} {k : Nat} {xs : List Value} (h : W.ownsRow base e size v k xs) {j : Nat} {o : Obj} (hj : W.heap[j]? = some o) (hno : ∀ cur, o ≠ .cells cur e (0, 0)) : some j ≠ v.ownBlock := by
  intro e'
  rcases h.2 with ⟨rfl, _⟩ | ⟨g, cap, cur, rfl, _, hgb, _⟩
  · cases e'
  · have : j = g := Option.some.inj e'
    subst this
    rw [hgb] at hj; cases hj; exact hno cur rfl
theorem own_cells {W : World} {base : Nat} {e : TypeId} {size : Nat} {v : Value} {k : Nat} {xs : List Value} (h : W.ownsRow base e size v k xs) : ∀ (j : Nat) (o : Obj), v.ownBlock = some j → W.heap[j]? = some o → o.isCells = true := by
  intro j o hj ho
  rcases h.2 with ⟨rfl, _⟩ | ⟨g, cap, cur, rfl, _, hgb, _⟩
  · cases hj
  · have : g = j := Option.some.inj hj
    subst this; rw [hgb] at ho; cases ho; rfl
theorem box_set {W : World} {B : Nat} {v : Value} {t : TypeId} (v' : Value) (h : W.heap[B]? = some (.cells #[v] t (0, 0))) : (W.setCell ⟨B, 0, none⟩ v').heap[B]? = some (.cells #[v'] t (0, 0)) := by
  obtain ⟨hlt, hk⟩ := Array.getElem?_eq_some_iff.1 h
  show (W.heap.modify B _)[B]? = _
  rw [Array.getElem?_eq_getElem (by rw [Array.size_modify]; exact hlt), Array.getElem_modify_self, hk]
  rfl
theorem box_cell {W : World} {B : Nat} {v : Value} {t : TypeId} (h : W.heap[B]? = some (.cells #[v] t (0, 0))) : W.cell? ⟨B, 0, none⟩ = some v ∧ W.frozen? ⟨B, 0, none⟩ = false := by
  constructor <;> simp [World.cell?, World.frozen?, h]
theorem list_ne_key : 74 ≠ 45 := by decide
/-- What a round of AppendSeq leaves. -/
theorem ap_step {w W2 w3 : World} {ks : List Ke} {x : Ke} {v v' : Value} (hv : W2.heap[w.heap.size]? = some (.cells #[v] 74 (0, 0))) (hrow : W2.ownsRow w.heap.size 45 5 v ks.length (kcs ks)) (hb : Below w.heap.size w W2)
    (o : Obj) (hown : w3.ownsRow w.heap.size 45 5 v' (ks.length + 1) (kcs ks ++ k5 x)) (hg : (W2.alloc o).grownBy w3 v.ownBlock) :
    w3.heap[w.heap.size]? = some (.cells #[v] 74 (0, 0)) ∧ KeepsOthers W2 (w3.setCell ⟨w.heap.size, 0, none⟩ v') ∧ ApAt w (ks ++ [x]) (w3.setCell ⟨w.heap.size, 0, none⟩ v') := by
  have hne : ∀ cur, (Obj.cells #[v] 74 (0, 0)) ≠ .cells cur 45 (0, 0) := fun cur e => list_ne_key (Obj.cells.inj e).2.1
  have hlt : w.heap.size < W2.heap.size := (Array.getElem?_eq_some_iff.1 hv).1
  have hv3 : w3.heap[w.heap.size]? = some (.cells #[v] 74 (0, 0)) := (hg.block _ (by simp; omega) (own_not hrow hv hne)).trans ((Below.heap_alloc _ _ _ hlt).trans hv)
  have hg4 := grown_set w3 w.heap.size v'
  have hb3 : Below w.heap.size w w3 := (hb.alloc hb.size o).grown hg (by have := hb.size; simp; omega) (fun k e => (hrow.lt k e).1)
  refine ⟨hv3, ?_, ⟨⟨v', box_set v' hv3, ?_⟩, hb3.grown hg4 hb3.size (fun k e => by cases e; exact Nat.le_refl _)⟩⟩
  · exact ((KeepsOthers.alloc _ _).trans (KeepsOthers.of_grownBy hg (own_cells (hrow.alloc o)))).trans (KeepsOthers.setCell _ _ _)
  · rw [List.length_append, kcs_add]
    refine hown.kept hg4 ?_
    rcases hown.2 with ⟨rfl, h⟩ | ⟨g, cap, cur, rfl, _, hgb, _⟩
    · exact absurd h (by omega)
    · refine .inr fun e' => own_not hown hv3 (fun cur e => list_ne_key (Obj.cells.inj e).2.1) e'.symm

set_option maxHeartbeats 2000000 in
theorem append_any (n : Nat) (hn : 2 ≤ n) (w : World) (g : Nat) (lb : Array Value) (eg : ∀ args w, (callFunc g args).run Tryz.prog w = .ok (.enter g args) w) (S : List Ke → Prop) (N : Nat) (hN : N ≤ 100000)
    (hseq : SeqGives Fence.wide (n - 1) Tryz.prog g lb kyV S N w) :
    CallsIn Fence.wide n Tryz.prog 78 #[.slice none 0 0, .func (.func g) #[] lb] w fun e w' => ∃ (v : Value) (ks : List Ke), e = .returned v ∧ S ks ∧ w'.ownsRow w.heap.size 45 5 v ks.length (kcs ks) ∧ Below w.heap.size w w' := by
  have h1 : 1 ≤ n := by omega
  have h0 : ApAt w [] (w.alloc (.cells #[.slice none 0 0] 74)) := ⟨⟨_, World.alloc_heap_new w _, rfl, .inl ⟨rfl, rfl⟩⟩, (Below.refl _ w).alloc (Nat.le_refl _) _⟩
  have H0 := Lib.hid h0
  have HSEQ := Lib.hid hseq
  clear h0 hseq
  refine callsIn_of_wp_marks Tryz.func78 rfl trivial ?_ rfl
  simp only [Tryz.ntmps78, List.size_toArray, List.length_cons, List.length_nil, Nat.reduceAdd, Nat.reduceSub, Array.replicate_succ, Array.replicate_zero, List.push_toArray, List.append_toArray, List.nil_append, List.cons_append]
  gi_wp2
  refine wpIn_rangeFunc_box rfl h1 rfl trivial eg HSEQ.out ((Below.refl _ w).alloc (Nat.le_refl _) _) (ApAt w) (ap_own w _ (by simp)) H0.out ?_ ?_
  · intro l ks x W hI hlen hle hlt
    have HI := Lib.hid hI
    have HLE := Lib.hid hle
    have HLT := Lib.hid hlt
    have HLEN := Lib.hid hlen
    clear hI hlen hle hlt
    change Code.wpIn _ _ _ _ _ { tmps := #[.slice none 0 0, .func (.func g) #[] lb, .pointer (some ⟨w.heap.size, 0, none⟩), undef, .slice none 0 0, undef, .func (.func g) #[] lb, .agg #[.int .u32 (x.a : Int), .int .u32 (x.b : Int), .int .u16 (x.p : Int), .int .u16 (x.q : Int), .int .u8 (x.r : Int)], undef, undef, undef, undef, undef], defers := [] } W
    gi_wp2_with (rw [Oper.semAt_eq _ _ _ (fun c h => by cases h)]; go_simp)
    refine ⟨KeepsOthers.alloc _ _, ?_⟩
    rintro W2 hg ⟨o, ho, hoc⟩
    have hI1 := (ap_own w w.heap.size (Nat.le_refl _)).alloc (.cells #[.int .u32 (x.a : Int), .int .u32 (x.b : Int), .int .u16 (x.p : Int), .int .u16 (x.q : Int), .int .u8 (x.r : Int)] 45) HI.out
    have hI2 := ap_own w w.heap.size (Nat.le_refl _) ks _ W2 (some l) hI1 hg (fun r e => by cases e; exact ⟨by have := HLE.out; simp at this; omega, o, ho, hoc⟩)
    obtain ⟨⟨v, hv2, hrow2⟩, hb2⟩ := hI2
    obtain ⟨hc2, hf2⟩ := box_cell hv2
    have HX : Hid (Blk W2 W.heap.size #[.int .u32 (x.a : Int), .int .u32 (x.b : Int), .int .u16 (x.p : Int), .int .u16 (x.q : Int), .int .u8 (x.r : Int)] 45) :=
      (Blk.box W #[.int .u32 (x.a : Int), .int .u32 (x.b : Int), .int .u16 (x.p : Int), .int .u16 (x.q : Int), .int .u8 (x.r : Int)] 45).keep (hg.block _ (by simp) (fun e => by have := HLT.out; cases e; omega))
    obtain ⟨x0, x1, x2, x3, x4⟩ := Ky.ky_cells HX.out
    obtain ⟨i0, hi, hz0, hz1, hz2⟩ := info_parts key_info
    have HV2 := Lib.hid hv2
    have HROW2 := Lib.hid hrow2
    have HB2 := Lib.hid hb2
    clear hv2 hrow2 hb2 hg ho hoc hI1
    gi_wp2_with (first
      | (gi_at_builtin; refine wpListIn_append_own _ rfl _ _ 74 rfl w.heap.size 45 i0 _ 5 16 slice_key hi hz0 hz1 hz2 rfl (by decide) _ _ _ rfl (HROW2.out.alloc _) ⟨W2.heap.size, 0, none⟩ 1 1 (k5 x) rfl rfl (k5_new W2 x 45) (k5_one x) (by have := HLEN.out; unfold maxLen; omega) (by have := HLEN.out; omega) (by have := HB2.out.size; simp; omega) ?_; intro v' w3 hown hg3 _
         obtain ⟨hv3, hk4, hap4⟩ := ap_step HV2.out HROW2.out HB2.out _ hown hg3
         obtain ⟨hc3, hf3⟩ := box_cell hv3
         obtain ⟨g', cap', rfl⟩ : ∃ g' cap', v' = .slice (some ⟨g', 0, none⟩) (ks.length + 1) cap' := by
           rcases hown.2 with ⟨_, h⟩ | ⟨g, cap, cur, h, _⟩
           · exact absurd h (by omega)
           · exact ⟨g, cap, h⟩
         have HK4 := Lib.hid hk4
         have HAP4 := Lib.hid hap4
         clear hown hg3 hv3 hk4 hap4
         go_frame)
      | (rw [Oper.semAt_eq _ _ _ (fun c h => by cases h)]; go_simp))
    exact ⟨HK4.out, HAP4.out⟩
  · intro D ks W hD hS hI hK
    obtain ⟨⟨v, hv, ho⟩, hb⟩ := hI
    have hcell : W.cell? ⟨w.heap.size, 0, none⟩ = some v := by simp [World.cell?, hv]
    gi_wp2
    refine ⟨by simp, .inl ⟨_, _, rfl, run_takeDeferred hK, ?_⟩⟩
    have hg := grownBy_putObj' W D (.deferred none)
    exact ⟨_, results_tmp rfl _ _ _, v, ks, rfl, hS, own_abides ho hg (fun r e => by cases e; exact ⟨_, hK, rfl⟩), hb.grown hg hb.size (fun k e => by cases e; simp at hD; omega)⟩
theorem collect_any (n : Nat) (hn : 3 ≤ n) (w : World) (g : Nat) (lb : Array Value) (eg : ∀ args w, (callFunc g args).run Tryz.prog w = .ok (.enter g args) w) (S : List Ke → Prop) (N : Nat) (hN : N ≤ 100000)
    (hseq : SeqGives Fence.wide (n - 1 - 1) Tryz.prog g lb kyV S N w) :
    CallsIn Fence.wide n Tryz.prog 42 #[.func (.func g) #[] lb] w fun e w' => ∃ (v : Value) (ks : List Ke), e = .returned v ∧ S ks ∧ w'.ownsRow w.heap.size 45 5 v ks.length (kcs ks) ∧ Below w.heap.size w w' := by
  have h1 : 1 ≤ n := by omega
  refine callsIn_of_wp Tryz.func42 rfl trivial ?_ rfl
  simp only [Tryz.ntmps42, List.size_toArray, List.length_cons, List.length_nil, Nat.reduceAdd, Nat.reduceSub, Array.replicate_succ, Array.replicate_zero, List.push_toArray, List.append_toArray, List.nil_append, List.cons_append]
  gi_wp2
  refine ⟨trivial, (append_any (n - 1) (by omega) _ g lb eg S N hN hseq).mono ?_⟩
  rintro e w' ⟨v, ks, rfl, hS, hrow, hb⟩
  gi_wp2
  go_ret
  exact ⟨v, ks, rfl, hS, hrow, hb⟩
theorem maps_any (M : Nat) (w : World) : Calls Tryz.prog 43 #[.map (some M)] w fun e w' =>
    e = .returned (.func (.func 79) #[] #[.pointer (some ⟨w.heap.size, 0, none⟩)]) ∧ w' = w.alloc (.cells #[.map (some M)] 56) := by
  go_enter Tryz.func43, Tryz.ntmps43
  go_wp2_with fail
  go_ret
  exact ⟨rfl, rfl⟩
/-- What slices.Collect of the map's keys hands back. -/
theorem collected {w : World} {Bm M : Nat} {fs : List Fl} (hm : w.cell? ⟨Bm, 0, none⟩ = some (.map (some M))) (hM : MapAt w M fs) (hN : fs.length ≤ 100000) :
    Calls Tryz.prog 42 #[.func (.func 79) #[] #[.pointer (some ⟨Bm, 0, none⟩)]] w fun e w' =>
      ∃ (v : Value) (ks : List Ke), e = .returned v ∧ ks.Perm (fs.map (·.k)) ∧ w'.ownsRow w.heap.size 45 5 v ks.length (kcs ks) ∧ Below w.heap.size w w' :=
  callsIn_wide.1 (collect_any 3 (by omega) w _ _ (fun args w => rfl) _ fs.length hN (keys_give hm hM 1 (by omega)))
end Au
end Go.Proofs.YtgcnhbjoalemlaaGreatDoor
/- Layer 18: Keys of a firewall with no flow or one. -/
set_option linter.unusedVariables false
set_option linter.unusedSimpArgs false
set_option maxRecDepth 100000
namespace Go.Proofs.YtgcnhbjoalemlaaGreatDoor
open Go.ChangeShapes Go.WideShapes Go.ChangeAt Go.RowKit Go.Mtl Go.Lib
namespace Au
open AutM
theorem few_perm {ks ls : List Ke} (h : ks.Perm ls) (hl : ls.length ≤ 1) : ks = ls := by
  match ls, hl with
  | [], _ => exact List.perm_nil.1 h
  | [k], _ => exact List.perm_singleton.1 h
theorem list_info : ∃ i, Tryz.prog.info? 74 = some i ∧ i.desc = .slice 45 := ⟨_, rfl, by kernel_rfl⟩
theorem key_info2 : ∃ i, Tryz.prog.info? 45 = some i := ⟨_, rfl⟩
theorem grow_below (w : World) (os : Array Obj) : Below w.heap.size w (Sort.grow w os) :=
  ⟨rfl, rfl, rfl, by simp [Sort.grow], fun k hk => by simp [Sort.grow, Array.getElem?_append_left hk]⟩
theorem sw_1 : Tryz.prog.funcs.findIdx? (fun x => x.name == "internal/reflectlite" ++ ".Swapper$" ++ toString 1) = some 111 := by kernel_rfl
theorem sw_2 : Tryz.prog.funcs.findIdx? (fun x => x.name == "internal/reflectlite" ++ ".Swapper$" ++ toString 2) = some 112 := by kernel_rfl
theorem sort_few (p : Option Addr) (n c : Nat) (h : n ≤ 1) (lf : Fn) (la lb : Array Value) (w : World) :
    Calls Tryz.prog 44 #[.iface 74 (.slice p n c), .func lf la lb] w fun e w' => e = .returned (.tuple #[]) ∧ Below w.heap.size w w' := by
  obtain ⟨i, hi, hd⟩ := list_info
  obtain ⟨ie, hie⟩ := key_info2
  have key : ∀ f, Tryz.prog.funcs.findIdx? (·.name == "internal/reflectlite" ++ ".Swapper$" ++ toString (swapperK n ie 25)) = some f → Calls Tryz.prog 44 #[.iface 74 (.slice p n c), .func lf la lb] w fun e w' => e = .returned (.tuple #[]) ∧ Below w.heap.size w w' := by
    intro f hf
    refine (Any.sort_Slice_tiny Tryz.laysGg6 74 45 i ie hi hd (by kernel_rfl) hie 25 (fun w => by kernel_rfl) p n c h f hf lf la lb w).mono ?_
    rintro e w' ⟨rfl, os, rfl⟩
    exact ⟨rfl, grow_below _ _⟩
  rcases Nat.eq_zero_or_pos n with h0 | h0
  · subst h0
    exact key 111 sw_1
  · obtain rfl : n = 1 := by omega
    exact key 112 sw_2
theorem own_later {W W' : World} {base : Nat} {e : TypeId} {size : Nat} {v : Value} {k : Nat} {xs : List Value} (h : W.ownsRow base e size v k xs) (hb : Below W.heap.size W W') : W'.ownsRow base e size v k xs :=
  h.kept (row := none) ⟨hb.1, hb.2, hb.3, hb.4, fun k hk _ => hb.5 k hk⟩ (by
    rcases h.2 with ⟨rfl, _⟩ | ⟨g, cap, cur, rfl, _⟩
    · exact .inl rfl
    · exact .inr (by simp [Value.ownBlock]))
theorem _root_.Go.World.ownsRow.base {W : World} {base base' : Nat} {e : TypeId} {size : Nat} {v : Value} {k : Nat} {xs : List Value} (h : W.ownsRow base e size v k xs) (hb : base' ≤ base) : W.ownsRow base' e size v k xs :=
  ⟨h.1, h.2.imp id (fun ⟨g, cap, cur, h1, h2, h3⟩ => ⟨g, cap, cur, h1, Nat.le_trans hb h2, h3⟩)⟩
set_option maxHeartbeats 2000000 in
theorem keys_few {w : World} {O : Nat → Prop} {B M : Nat} {N : Int} {T : Nat → Int} {s : St} (H : PAt w O B M N T s) (hf : s.fs.length ≤ 1) :
    Calls Tryz.prog 19 #[ptr B] w fun e w' => ∃ v, e = .returned v ∧ w'.ownsRow w.heap.size 45 5 v s.fs.length (kcs (s.fs.map (·.k))) ∧ Below w.heap.size w w' := by
  obtain ⟨⟨li, H⟩, hi, _⟩ := H
  have H4 := H.at_ 19 (.map (some M)) rfl
  have HM := Lib.hid H.map
  have HF := Lib.hid hf
  clear H hi
  go_enter Tryz.func19, Tryz.ntmps19
  go_wp2_with fail
  go_at_call 43
  refine (maps_any M w).mono ?_
  rintro e w1 ⟨rfl, rfl⟩
  go_wp2_with fail
  go_at_call 42
  refine (collected (fs := s.fs) (Bm := w.heap.size) (M := M) ((Blk.box w #[.map (some M)] 56).cell 0 _ rfl) (HM.out.keep (Below.heap_alloc _ _ _ HM.out.lt)) (by have := HF.out; omega)).mono ?_
  rintro e w2 ⟨v, ks, rfl, hp, ho, hb⟩
  have hk := few_perm hp (by simpa using HF.out)
  subst hk
  rw [List.length_map] at ho
  have hv : ∃ p c, v = .slice p s.fs.length c := by
    rcases ho.2 with ⟨rfl, h⟩ | ⟨g, cap, cur, rfl, _⟩
    · exact ⟨none, 0, by rw [h]⟩
    · exact ⟨_, _, rfl⟩
  obtain ⟨p, c, rfl⟩ := hv
  obtain ⟨n, hn⟩ : ∃ n, n = s.fs.length := ⟨_, rfl⟩
  rw [← hn] at ho HF ⊢
  have HSZ := Lib.hid (below_box w (.cells #[.map (some M)] 56)).size
  have HO := Lib.hid ho
  have HB := Lib.hid (below_then (below_box w (.cells #[.map (some M)] 56)) hb)
  have HN := Lib.hid hn
  clear hp ho hb H4 HM hn
  go_wp2_with fail
  go_at_call 44
  refine (sort_few p n c HF.out _ _ _ _).mono ?_
  rintro e w3 ⟨rfl, hb⟩
  have hbx : w3.cell? ⟨w2.heap.size, 0, none⟩ = some (.slice p n c) := ((Blk.box w2 #[.slice p n c] 74).next hb).cell 0 _ rfl
  have hb3 := below_then (below_box w2 (.cells #[.slice p n c] 74)) hb
  have HO3 := Lib.hid (own_later HO.out hb3)
  have HB3 := Lib.hid (below_then HB.out hb3)
  clear hb hb3
  go_wp2_with fail
  go_ret
  exact ⟨.slice p n c, rfl, by rw [← HN.out]; exact HO3.out.base HSZ.out, HB3.out⟩
end Au
end Go.Proofs.YtgcnhbjoalemlaaGreatDoor
/- Layer 18: awake. (Written by wip/tools/mkAutR.py.) -/
set_option linter.unusedVariables false
set_option linter.unusedSimpArgs false
set_option maxRecDepth 100000
namespace Go.Proofs.YtgcnhbjoalemlaaGreatDoor
open Go.ChangeShapes Go.WideShapes Go.ChangeAt Go.RowKit Go.Mtl Go.Lib
namespace Au
open AutM
open RulM (R)
open MatM (K fst accB idxI)

/-- What awake keeps beside the firewall: two packets in their blocks. -/
structure KW (w : World) (gp gq : Nat) (W : World) : Prop where
  env : Env W
  bel : Below w.heap.size w W
  bp : Blk W gp (Ma.pK p1) 41
  bq : Blk W gq (Ma.pK q1) 41
theorem KW.next {w W W' : World} {gp gq : Nat} (H : KW w gp gq W) (hb : Below W.heap.size W W') : KW w gp gq W' := ⟨H.env.below hb, below_then H.bel hb, H.bp.next hb, H.bq.next hb⟩
/-- The firewall's own blocks: laid since, none of the listed variables', none of the packets'. -/
structure OW (w : World) (O : Nat → Prop) (gp gq : Nat) : Prop where
  lo : ∀ j, O j → w.heap.size ≤ j
  far : ∀ j, O j → Far j
  np : ¬ O gp
  nq : ¬ O gq
theorem KW.only {w W W' : World} {O : Nat → Prop} {gp gq : Nat} (H : KW w gp gq W) (hO : OW w O gp gq) (h : Only O W W') : KW w gp gq W' :=
  ⟨H.env.only h hO.far, H.bel.trans (h.below hO.lo H.bel.size), Blk.only H.bp h hO.np, Blk.only H.bq h hO.nq⟩
/-- A slice of the one rule. -/
theorem one_rds {W : World} {g : Nat} (H : Blk W g #[.bool true, .int .u8 0, .int .u32 0, .int .i64 0, .int .u32 0, .int .i64 0, .int .u16 0, .int .u16 65535, .int .u16 0, .int .u16 65535] 62) : Rds W W.heap.size (.slice (some ⟨g, 0, none⟩) 1 1) [r1] := by
  refine ⟨_, 1, rfl, Nat.le_refl _, by unfold maxLen; decide, fun _ => ⟨g, 0, rfl, H.lt, fun j u hu => ?_⟩⟩
  rw [Nat.zero_add]
  exact H.cell j u (by rw [← hu]; exact List.getElem?_toArray)
theorem cf1 : (Value.agg (cfc 1 1 T1)) = .agg #[.int .i64 1, .int .i64 1, .int .i64 0, .int .i64 5, .int .i64 5, .int .i64 0, .int .i64 0, .int .i64 0, .int .i64 0, .int .i64 0, .int .i64 0, .int .i64 0, .int .i64 0, .int .i64 0, .int .i64 0, .int .i64 0, .int .i64 0, .int .i64 0] := rfl

section
variable {W : World} {O : Nat → Prop} {B M : Nat}
theorem act1 (H : PAt W O B M 1 T1 s0) (he : Env W) : Calls Tryz.prog 16 #[ptr B, .agg (Ma.pK q1)] W fun e w' => e = .returned (.int .i64 4) ∧ PAt w' O B M 1 T1 s1 ∧ Only O W w' := by
  have h := act_p H he q1 q1_ok; rw [v1] at h; exact h
theorem act2 (H : PAt W O B M 1 T1 s1) (he : Env W) : Calls Tryz.prog 16 #[ptr B, .agg (Ma.pK p1)] W fun e w' => e = .returned (.int .i64 1) ∧ PAt w' O B M 1 T1 s2 ∧ Only O W w' := by
  have h := act_p H he p1 p1_ok; rw [v2] at h; exact h
theorem act3 (H : PAt W O B M 1 T1 s2) (he : Env W) : Calls Tryz.prog 16 #[ptr B, .agg (Ma.pK q1)] W fun e w' => e = .returned (.int .i64 1) ∧ PAt w' O B M 1 T1 s3 ∧ Only O W w' := by
  have h := act_p H he q1 q1_ok; rw [v3] at h; exact h
theorem act4 (H : PAt W O B M 1 T1 s3) (he : Env W) : Calls Tryz.prog 16 #[ptr B, .agg #[.int .u8 17, .int .u32 0, .int .u32 0, .int .u16 0, .int .u16 0, .int .u8 0, .int .u8 0]] W fun e w' => e = .returned (.int .i64 5) ∧ PAt w' O B M 1 T1 s4 ∧ Only O W w' := by
  have h := act_p H he u1 u1_ok; rw [v4] at h; exact h
theorem tick1 (H : PAt W O B M 1 T1 s4) (he : Env W) : Calls Tryz.prog 17 #[ptr B, .int .i64 5] W fun e w' => e = .returned (.tuple #[]) ∧ PAt w' O B M 1 T1 s5 ∧ Only O W w' :=
  tick_any H he 5 ⟨by decide, by decide⟩
theorem act5 (H : PAt W O B M 1 T1 s5) (he : Env W) : Calls Tryz.prog 16 #[ptr B, .agg (Ma.pK q1)] W fun e w' => e = .returned (.int .i64 4) ∧ PAt w' O B M 1 T1 s6 ∧ Only O W w' := by
  have h := act_p H he q1 q1_ok; rw [v5] at h; exact h
theorem count1 (H : PAt W O B M 1 T1 s6) : Calls Tryz.prog 18 #[ptr B, .int .i64 3] W fun e w' => e = .returned (.tuple #[]) ∧ PAt w' O B M 1 T1 s7 ∧ Only O W w' := count_p H 3
theorem stat1 (H : PAt W O B M 1 T1 s7) : Calls Tryz.prog 12 #[ptr B, .int .i64 3] W fun e w' => e = .returned (.int .u64 1) ∧ Below W.heap.size W w' := by
  have h := stat_p H 3; rw [v6] at h; exact h
theorem gate1 (H : PAt W O B M 1 T1 s7) (he : Env W) : Calls Tryz.prog 20 #[ptr B] W fun e w' => e = .returned (.agg (Ga.gtc 0 0 5)) ∧ Below W.heap.size W w' := by
  have h := gate_p H he; rw [v8.1, v8.2.1, v8.2.2] at h; exact h
theorem keys1 (H : PAt W O B M 1 T1 s7) : Calls Tryz.prog 19 #[ptr B] W fun e w' => ∃ p c, e = .returned (.slice p 0 c) ∧ Below W.heap.size W w' := by
  refine (keys_few H (by rw [v7]; omega)).mono ?_
  rintro e w' ⟨v, rfl, ho, hb⟩
  rw [v7] at ho
  rcases ho.2 with ⟨rfl, _⟩ | ⟨g, cap, cur, rfl, _⟩
  · exact ⟨none, 0, rfl, hb⟩
  · exact ⟨_, _, rfl, hb⟩
end

set_option maxHeartbeats 4000000 in
theorem awake_any (w : World) (he : Env w) :
    Calls Tryz.prog 7 #[] w fun e w' => e = .returned (.bool true) ∧ Below w.heap.size w w' := by
  have HENV := Lib.hid he
  clear he
  have HS := Lib.hid (below_box w (.cells #[.int .u16 0, .int .u16 65535] 60))
  have HRL := Lib.hid (Blk.box1 w (.cells #[.int .u16 0, .int .u16 65535] 60) #[.bool true, .int .u8 0, .int .u32 0, .int .i64 0, .int .u32 0, .int .i64 0, .int .u16 0, .int .u16 65535, .int .u16 0, .int .u16 65535] 62)
  have HRB := Lib.hid (below_then HS.out (below_box (w.alloc (.cells #[.int .u16 0, .int .u16 65535] 60)) (.cells #[.bool true, .int .u8 0, .int .u32 0, .int .i64 0, .int .u32 0, .int .i64 0, .int .u16 0, .int .u16 65535, .int .u16 0, .int .u16 65535] 62)))
  have c0 := (Blk.box w #[.int .u16 0, .int .u16 65535] 60).cell 0 _ rfl
  have c1 := (Blk.box w #[.int .u16 0, .int .u16 65535] 60).cell 1 _ rfl
  go_enter Tryz.func7, Tryz.ntmps7
  go_wp2_with fail
  clear c0 c1
  go_at_call 4
  have hnew := new_ok 1 1 T1 ⟨by decide, by decide⟩ T1_in (HENV.out.below HRB.out) _ 1 1 [r1] rfl (one_rds HRL.out) r1_ok (by omega) chk_1
  simp only [cf1] at hnew
  refine hnew.mono ?_
  rintro e W1 ⟨O, B, M, rfl, hp, hb, hlo⟩
  have HP0 : Hid (PAt W1 O B M 1 T1 s0) := hp
  have HFAR : Hid (∀ j, O j → Far j) := hp.1.elim fun _ h => h.hi
  have HLT : Hid (∀ j, O j → j < W1.heap.size) := hp.1.elim fun _ h => h.lt
  have HLO : Hid (∀ j, O j → w.heap.size ≤ j) := fun j h => Nat.le_trans HRB.out.size (hlo j h)
  have HB1 := Lib.hid (below_then HRB.out hb)
  clear hnew hp hb hlo HS HRL HRB
  have q1c := Fs.pk_cells (Blk.box W1 #[.int .u8 6, .int .u32 1, .int .u32 2, .int .u16 3, .int .u16 4, .int .u8 2, .int .u8 0] 41)
  obtain ⟨p0, p1, p2, p3, p4, p5, p6⟩ := q1c
  go_wp2_with fail
  clear p0 p1 p2 p3 p4 p5 p6
  go_at_call 15
  refine (Ky.turn_any 6 1 2 3 4 2 0 0 rfl _).mono ?_
  rintro e W2 ⟨rfl, hb⟩
  have HBP := Lib.hid ((Blk.box W1 (Ma.pK p1) 41).next hb)
  have HB2 := Lib.hid (below_then (below_box W1 (.cells (Ma.pK p1) 41)) hb)
  clear hb
  go_wp2_with fail
  have HOW : Hid (OW w O W1.heap.size W2.heap.size) := ⟨HLO.out, HFAR.out, fun e => by have := HLT.out _ e; omega, fun e => by have := HLT.out _ e; have := HB2.out.size; omega⟩
  have HPD : Hid (PAt (W2.alloc (.cells #[.int .u8 6, .int .u32 2, .int .u32 1, .int .u16 4, .int .u16 3, .int .u8 18, .int .u8 0] 41)).drew O B M 1 T1 s0) := (HP0.out.next (below_then HB2.out (below_box W2 (.cells #[.int .u8 6, .int .u32 2, .int .u32 1, .int .u16 4, .int .u16 3, .int .u8 18, .int .u8 0] 41)))).next (Below.refl _ _).drew
  have HKD : Hid (KW w W1.heap.size W2.heap.size (W2.alloc (.cells #[.int .u8 6, .int .u32 2, .int .u32 1, .int .u16 4, .int .u16 3, .int .u8 18, .int .u8 0] 41)).drew) :=
    ⟨HENV.out.below (below_then (below_then HB1.out HB2.out) ((below_box W2 (.cells #[.int .u8 6, .int .u32 2, .int .u32 1, .int .u16 4, .int .u16 3, .int .u8 18, .int .u8 0] 41)).drew)), below_then (below_then HB1.out HB2.out) ((below_box W2 (.cells #[.int .u8 6, .int .u32 2, .int .u32 1, .int .u16 4, .int .u16 3, .int .u8 18, .int .u8 0] 41)).drew), HBP.out.alloc _, Blk.box W2 #[.int .u8 6, .int .u32 2, .int .u32 1, .int .u16 4, .int .u16 3, .int .u8 18, .int .u8 0] 41⟩
  generalize W2.alloc (.cells #[.int .u8 6, .int .u32 2, .int .u32 1, .int .u16 4, .int .u16 3, .int .u8 18, .int .u8 0] 41) = W3 at *
  generalize W1.heap.size = gp at *
  generalize W2.heap.size = gq at *
  clear HP0 HFAR HLT HLO HB1 HBP HB2
  refine wp_region_held_drew (S := fun w' => KW w gp gq w') (by kernel_rfl) (HKD.out) (fun hH => ?_)
  refine wpAnyH_take (i := 0) (oi := ⟨some 28, _, _, _, _, _⟩) (v := ?v1) rfl (by kernel_rfl) (by kernel_rfl) (by kernel_rfl) (fun _ _ _ h => h) (Or.inl ⟨rfl, ?c1⟩) hH ?r1
  case c1 => (intro w' _; go_simp; (try with_reducible rfl))
  try simp only [Act.put, List.setIfInBounds_toArray, List.set_cons_zero, List.set_cons_succ]
  refine wpAnyH_take (i := 1) (oi := ⟨some 29, _, _, _, _, _⟩) (v := ?v2) rfl (by kernel_rfl) (by kernel_rfl) (by kernel_rfl) (fun _ _ _ h => h) (Or.inl ⟨rfl, ?c2⟩) hH ?r2
  case c2 => (intro w' hS; obtain ⟨x0, x1, x2, x3, x4, x5, x6⟩ := Fs.pk_cells hS.bq; go_simp; (try with_reducible rfl))
  try simp only [Act.put, List.setIfInBounds_toArray, List.set_cons_zero, List.set_cons_succ]
  refine wpAnyH_take (i := 3) (oi := ⟨some 31, _, _, _, _, _⟩) (v := ?v3) rfl (by kernel_rfl) (by kernel_rfl) (by kernel_rfl) (fun _ _ _ h => h) (Or.inl ⟨rfl, ?c3⟩) hH ?r3
  case c3 => (intro w' _; go_simp; (try with_reducible rfl))
  try simp only [Act.put, List.setIfInBounds_toArray, List.set_cons_zero, List.set_cons_succ]
  refine wpAnyH_take (i := 4) (oi := ⟨some 32, _, _, _, _, _⟩) (v := ?v4) rfl (by kernel_rfl) (by kernel_rfl) (by kernel_rfl) (fun _ _ _ h => h) (Or.inl ⟨rfl, ?c4⟩) hH ?r4
  case c4 => (intro w' hS; obtain ⟨x0, x1, x2, x3, x4, x5, x6⟩ := Fs.pk_cells hS.bp; go_simp; (try with_reducible rfl))
  try simp only [Act.put, List.setIfInBounds_toArray, List.set_cons_zero, List.set_cons_succ]
  refine wpAnyH_take (i := 6) (oi := ⟨some 34, _, _, _, _, _⟩) (v := ?v5) rfl (by kernel_rfl) (by kernel_rfl) (by kernel_rfl) (fun _ _ _ h => h) (Or.inl ⟨rfl, ?c5⟩) hH ?r5
  case c5 => (intro w' _; go_simp; (try with_reducible rfl))
  try simp only [Act.put, List.setIfInBounds_toArray, List.set_cons_zero, List.set_cons_succ]
  refine wpAnyH_take (i := 7) (oi := ⟨some 35, _, _, _, _, _⟩) (v := ?v6) rfl (by kernel_rfl) (by kernel_rfl) (by kernel_rfl) (fun _ _ _ h => h) (Or.inl ⟨rfl, ?c6⟩) hH ?r6
  case c6 => (intro w' hS; obtain ⟨x0, x1, x2, x3, x4, x5, x6⟩ := Fs.pk_cells hS.bq; go_simp; (try with_reducible rfl))
  try simp only [Act.put, List.setIfInBounds_toArray, List.set_cons_zero, List.set_cons_succ]
  refine wpAnyH_ready (rs := [2]) (by kernel_rfl) (by simp) (AllReadyH.cons rfl (fun K hK => ?_) (AllReadyH.nil))
  go_simp
  go_at_call 16
  refine (act1 HPD.out hH.env).mono ?_
  rintro e w31 ⟨rfl, hp, ho⟩
  have HP1 := Lib.hid hp
  refine hK.out _ _ (hH.only HOW.out ho) (fun hH => ?_)
  clear hK K
  clear hp ho HPD
  try simp only [Act.put, List.setIfInBounds_toArray, List.set_cons_zero, List.set_cons_succ]
  refine wpAnyH_ready (rs := [5]) (by kernel_rfl) (by simp) (AllReadyH.cons rfl (fun K hK => ?_) (AllReadyH.nil))
  go_simp
  go_at_call 16
  refine (act2 HP1.out hH.env).mono ?_
  rintro e w32 ⟨rfl, hp, ho⟩
  have HP2 := Lib.hid hp
  refine hK.out _ _ (hH.only HOW.out ho) (fun hH => ?_)
  clear hK K
  clear hp ho HP1
  try simp only [Act.put, List.setIfInBounds_toArray, List.set_cons_zero, List.set_cons_succ]
  refine wpAnyH_ready (rs := [8]) (by kernel_rfl) (by simp) (AllReadyH.cons rfl (fun K hK => ?_) (AllReadyH.nil))
  go_simp
  go_at_call 16
  refine (act3 HP2.out hH.env).mono ?_
  rintro e w33 ⟨rfl, hp, ho⟩
  have HP3 := Lib.hid hp
  refine hK.out _ _ (hH.only HOW.out ho) (fun hH => ?_)
  clear hK K
  clear hp ho HP2
  try simp only [Act.put, List.setIfInBounds_toArray, List.set_cons_zero, List.set_cons_succ]
  refine wpAnyH_take (i := 9) (oi := ⟨some 6, _, _, _, _, _⟩) (v := ?v7) rfl (by kernel_rfl) (by kernel_rfl) (by kernel_rfl) (fun _ _ _ h => h) (Or.inl ⟨rfl, ?c7⟩) hH ?r7
  case c7 => (intro w' _; go_simp; (try with_reducible rfl))
  try simp only [Act.put, List.setIfInBounds_toArray, List.set_cons_zero, List.set_cons_succ]
  refine wpAnyH_take (i := 10) (oi := ⟨some 7, _, _, _, _, _⟩) (v := ?v8) rfl (by kernel_rfl) (by kernel_rfl) (by kernel_rfl) (fun _ _ _ h => h) (Or.inl ⟨rfl, ?c8⟩) hH ?r8
  case c8 => (intro w' _; go_simp; (try with_reducible rfl))
  try simp only [Act.put, List.setIfInBounds_toArray, List.set_cons_zero, List.set_cons_succ]
  refine wpAnyH_take (i := 11) (oi := ⟨some 8, _, _, _, _, _⟩) (v := ?v9) rfl (by kernel_rfl) (by kernel_rfl) (by kernel_rfl) (fun _ _ _ h => h) (Or.inl ⟨rfl, ?c9⟩) hH ?r9
  case c9 => (intro w' _; go_simp; (try with_reducible rfl))
  try simp only [Act.put, List.setIfInBounds_toArray, List.set_cons_zero, List.set_cons_succ]
  refine wpAnyH_done (by kernel_rfl) ?_ _
  have HK := Lib.hid hH
  clear hH
  go_wp2_with fail
  go_at_call 16
  refine (act4 HP3.out HK.out.env).mono ?_
  rintro e w4 ⟨rfl, hp, ho⟩
  have HP4 := Lib.hid hp
  have HK4 := Lib.hid (HK.out.only HOW.out ho)
  clear hp ho HP3 HK
  go_wp2_with fail
  go_at_call 17
  refine (tick1 HP4.out HK4.out.env).mono ?_
  rintro e w5 ⟨rfl, hp, ho⟩
  have HP5 := Lib.hid hp
  have HK5 := Lib.hid (HK4.out.only HOW.out ho)
  clear hp ho HP4 HK4
  obtain ⟨x0, x1, x2, x3, x4, x5, x6⟩ := Fs.pk_cells HK5.out.bq
  go_wp2_with fail
  clear x0 x1 x2 x3 x4 x5 x6
  go_at_call 16
  refine (act5 HP5.out HK5.out.env).mono ?_
  rintro e w6 ⟨rfl, hp, ho⟩
  have HP6 := Lib.hid hp
  have HK6 := Lib.hid (HK5.out.only HOW.out ho)
  clear hp ho HP5 HK5
  go_wp2_with fail
  go_at_call 18
  refine (count1 HP6.out).mono ?_
  rintro e w7 ⟨rfl, hp, ho⟩
  have HP7 := Lib.hid hp
  have HK7 := Lib.hid (HK6.out.only HOW.out ho)
  clear hp ho HP6 HK6
  go_wp2_with fail
  go_at_call 12
  refine (stat1 HP7.out).mono ?_
  rintro e w8 ⟨rfl, hb⟩
  have HP8 := Lib.hid (HP7.out.next hb)
  have HK8 := Lib.hid (HK7.out.next hb)
  clear hb HP7 HK7
  go_wp2_with fail
  go_at_call 19
  refine (keys1 HP8.out).mono ?_
  rintro e w9 ⟨p, c, rfl, hb⟩
  have HP9 := Lib.hid (HP8.out.next hb)
  have HK9 := Lib.hid (HK8.out.next hb)
  clear hb HP8 HK8
  go_wp2_with fail
  go_at_call 20
  refine (gate1 HP9.out HK9.out.env).mono ?_
  rintro e w10 ⟨rfl, hb⟩
  have HB := Lib.hid (HK9.out.next hb).bel
  clear hb HP9 HK9
  go_wp2_with fail
  go_ret
  exact ⟨rfl, HB.out⟩
end Au
end Go.Proofs.YtgcnhbjoalemlaaGreatDoor
