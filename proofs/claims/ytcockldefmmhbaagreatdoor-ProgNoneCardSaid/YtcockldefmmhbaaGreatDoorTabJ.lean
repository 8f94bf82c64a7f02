/- Layer 20: maps.Keys of a stripe, and slices.AppendSeq onto keys that are there. (Written by wip/tools/mkTabI.py out of XAutJ.) -/
import Derived.Test.YtcockldefmmhbaaGreatDoorTabI
import Derived.Test.YtcockldefmmhbaaGreatDoorComM
import Derived.OwnWalk
set_option linter.unusedVariables false
set_option linter.unusedSimpArgs false
set_option maxRecDepth 100000
namespace Go.Proofs.YtcockldefmmhbaaGreatDoor
open Go.ChangeShapes Go.WideShapes Go.ChangeAt Go.RowKit Go.Mtl Go.Lib
namespace Tb
open TabM

abbrev k5 (k : AutM.Ke) : List Value := [.int .u32 (k.a : Int), .int .u32 (k.b : Int), .int .u16 (k.p : Int), .int .u16 (k.q : Int), .int .u8 (k.r : Int)]
def kcs (ks : List AutM.Ke) : List Value := ks.flatMap k5
theorem kcs_add (ks : List AutM.Ke) (k : AutM.Ke) : kcs (ks ++ [k]) = kcs ks ++ k5 k := by unfold kcs; rw [List.flatMap_append]; rfl
theorem kcs_len (ks : List AutM.Ke) : (kcs ks).length = ks.length * 5 := by
  induction ks with
  | nil => rfl
  | cons k ks ih =>
    show (k5 k ++ kcs ks).length = _
    rw [List.length_append, ih]
    show 5 + ks.length * 5 = (ks.length + 1) * 5
    omega
theorem k5_one (k : AutM.Ke) : ∀ u ∈ k5 k, u.oneCell' = true := by
  intro u hu
  simp only [k5, List.mem_cons, List.not_mem_nil, or_false] at hu
  rcases hu with rfl | rfl | rfl | rfl | rfl <;> rfl
theorem k5_new (w : World) (k : AutM.Ke) (t : TypeId) : ∀ j u, (k5 k)[j]? = some u → (w.alloc (.cells (k5 k).toArray t)).cell? ((⟨w.heap.size, 0, none⟩ : Addr).add j) = some u := by
  intro j u h
  have := (Blk.box w (k5 k).toArray t).cell j u (by simpa using h)
  unfold Addr.add
  split
  · rename_i hj; subst hj; exact this
  · simpa using this
/-- What the loop of AppendSeq keeps: what has come lies in a row of its own, boxed in block B. -/
def ApAt (base : Nat) (ks0 : List AutM.Ke) (w : World) (ks : List AutM.Ke) (W : World) : Prop :=
  (∃ v, W.heap[w.heap.size]? = some (.cells #[v] 42 (0, 0)) ∧ W.ownsRow base 87 5 v (ks0 ++ ks).length (kcs (ks0 ++ ks))) ∧ Below base w W
theorem slice_key : Tryz.prog.underlying 42 = some (.slice 87) := by kernel_rfl
theorem own_abides {W W' : World} {row : Option Nat} {base : Nat} {e : TypeId} {size : Nat} {v : Value} {k : Nat} {xs : List Value} (h : W.ownsRow base e size v k xs) (hg : W.grownBy W' row)
    (hrow : ∀ r, row = some r → ∃ o : Obj, W.heap[r]? = some o ∧ o.isCells = false) : W'.ownsRow base e size v k xs := by
  refine h.kept hg ?_
  rcases h.2 with ⟨rfl, _⟩ | ⟨g, cap, cur, rfl, _, hgb, _⟩
  · exact .inl rfl
  · refine .inr fun e' => ?_
    obtain ⟨o, ho, hw⟩ := hrow g (by simpa [Value.ownBlock] using e'.symm)
    rw [hgb] at ho; cases ho; cases hw
theorem ap_own (base : Nat) (ks0 : List AutM.Ke) (w : World) (hbase : base ≤ w.heap.size) (B : Nat) (hB : w.heap.size ≤ B) : OwnFrom B (ApAt base ks0 w) := by
  rintro ks W W' row ⟨⟨v, hv, ho⟩, hb⟩ hg hr
  refine ⟨⟨v, ?_, own_abides ho hg fun r e => (hr r e).2⟩, hb.grown hg (Nat.le_trans hbase hb.size) fun k e => Nat.le_trans (Nat.le_trans hbase hB) (hr k e).1⟩
  exact (grownBy_keeps_cells hg (fun r e => (hr r e).2) hv rfl).trans hv
/-- The iterator's value that maps.Keys hands back gives the map's keys. -/
theorem keys_give {w : World} {Bm M : Nat} {fs : List Fl} (hm : w.cell? ⟨Bm, 0, none⟩ = some (.map (some M))) (hM : MapAt w M fs) (n : Nat) (hn : 1 ≤ n) :
    SeqGives Fence.wide n Tryz.prog 175 #[.pointer (some ⟨Bm, 0, none⟩)] Au.kyV (fun ks => ks.Perm (fs.map (·.k))) fs.length w := by
  intro l J W hW hJ hY h0
  have hB : Bm < w.heap.size := by
    obtain ⟨o, ho, _⟩ := cells_of_cell hm
    exact (Array.getElem?_eq_some_iff.1 ho).1
  exact iter_any n hn l Bm M fs J W hY hJ ((hW.cell (p := ⟨Bm, 0, none⟩) hB).trans hm) (hM.keep (hW.block _ hM.lt)) h0

theorem key_info : (Tryz.prog.info? 87).map (fun i => (i.zero, i.size, i.bytes)) = some (some (.agg #[.int .u32 0, .int .u32 0, .int .u16 0, .int .u16 0, .int .u8 0]), 5, 16) := by kernel_rfl
theorem grown_set (W : World) (b : Nat) (v : Value) : W.grownBy (W.setCell ⟨b, 0, none⟩ v) (some b) :=
  ⟨rfl, rfl, rfl, (KeepsWalks.setCell W _ v).size, fun k _ hk => Below.heap_setCell _ _ _ k (fun e => hk (by rw [e]))⟩
theorem own_not {W : World} {base : Nat} {e : TypeId} {size : Nat} {v : Value} {k : Nat} {xs : List Value} (h : W.ownsRow base e size v k xs) {j : Nat} {o : Obj} (hj : W.heap[j]? = some o) (hno : ∀ cur, o ≠ .cells cur e (0, 0)) : some j ≠ v.ownBlock := by
  intro e'
  rcases h.2 with ⟨rfl, _⟩ | ⟨g, cap, cur, rfl, _, hgb, _⟩
  · cases e'
  · have : j = g := Option.some.inj e'
    subst this
    rw [hgb] at hj; cases hj; exact hno cur rfl
theorem own_cells {W : World} {base : Nat} {e : TypeId} {size : Nat} {v : Value} {k : Nat} {xs : List Value} (h : W.ownsRow base e size v k xs) : ∀ (j : Nat) (o : Obj), v.ownBlock = some j → W.heap[j]? = some o → o.isCells = true := by
  intro j o hj ho
  rcases h.2 with ⟨rfl, _⟩ | ⟨g, cap, cur, rfl, _, hgb, _⟩
  · cases hj
  · have : g = j := Option.some.inj hj
    subst this; rw [hgb] at ho; cases ho; rfl
theorem box_set {W : World} {B : Nat} {v : Value} {t : TypeId} (v' : Value) (h : W.heap[B]? = some (.cells #[v] t (0, 0))) : (W.setCell ⟨B, 0, none⟩ v').heap[B]? = some (.cells #[v'] t (0, 0)) := by
  obtain ⟨hlt, hk⟩ := Array.getElem?_eq_some_iff.1 h
  show (W.heap.modify B _)[B]? = _
  rw [Array.getElem?_eq_getElem (by rw [Array.size_modify]; exact hlt), Array.getElem_modify_self, hk]
  rfl
theorem box_cell {W : World} {B : Nat} {v : Value} {t : TypeId} (h : W.heap[B]? = some (.cells #[v] t (0, 0))) : W.cell? ⟨B, 0, none⟩ = some v ∧ W.frozen? ⟨B, 0, none⟩ = false := by
  constructor <;> simp [World.cell?, World.frozen?, h]
theorem list_ne_key : 42 ≠ 87 := by decide
/-- What a round of AppendSeq leaves. -/
theorem ap_step {base : Nat} {ks0 : List AutM.Ke} {w W2 w3 : World} (hbase : base ≤ w.heap.size) {ks : List AutM.Ke} {x : AutM.Ke} {v v' : Value} (hv : W2.heap[w.heap.size]? = some (.cells #[v] 42 (0, 0))) (hrow : W2.ownsRow base 87 5 v (ks0 ++ ks).length (kcs (ks0 ++ ks))) (hb : Below base w W2)
    (o : Obj) (hown : w3.ownsRow base 87 5 v' ((ks0 ++ ks).length + 1) (kcs (ks0 ++ ks) ++ k5 x)) (hg : (W2.alloc o).grownBy w3 v.ownBlock) :
    w3.heap[w.heap.size]? = some (.cells #[v] 42 (0, 0)) ∧ KeepsOthers W2 (w3.setCell ⟨w.heap.size, 0, none⟩ v') ∧ ApAt base ks0 w (ks ++ [x]) (w3.setCell ⟨w.heap.size, 0, none⟩ v') := by
  have hne : ∀ cur, (Obj.cells #[v] 42 (0, 0)) ≠ .cells cur 87 (0, 0) := fun cur e => list_ne_key (Obj.cells.inj e).2.1
  have hlt : w.heap.size < W2.heap.size := (Array.getElem?_eq_some_iff.1 hv).1
  have hv3 : w3.heap[w.heap.size]? = some (.cells #[v] 42 (0, 0)) := (hg.block _ (by simp; omega) (own_not hrow hv hne)).trans ((Below.heap_alloc _ _ _ hlt).trans hv)
  have hg4 := grown_set w3 w.heap.size v'
  have hb3 : Below base w w3 := (hb.alloc (Nat.le_trans hbase hb.size) o).grown hg (by have := hb.size; simp; omega) (fun k e => (hrow.lt k e).1)
  refine ⟨hv3, ?_, ⟨⟨v', box_set v' hv3, ?_⟩, hb3.grown hg4 (Nat.le_trans hbase hb3.size) (fun k e => by cases e; exact hbase)⟩⟩
  · exact ((KeepsOthers.alloc _ _).trans (KeepsOthers.of_grownBy hg (own_cells (hrow.alloc o)))).trans (KeepsOthers.setCell _ _ _)
  · rw [← List.append_assoc, List.length_append, kcs_add]
    refine hown.kept hg4 ?_
    rcases hown.2 with ⟨rfl, h⟩ | ⟨g, cap, cur, rfl, _, hgb, _⟩
    · exact absurd h (by omega)
    · refine .inr fun e' => own_not hown hv3 (fun cur e => list_ne_key (Obj.cells.inj e).2.1) e'.symm

set_option maxHeartbeats 2000000 in
theorem append_any (n : Nat) (hn : 2 ≤ n) (w : World) (g : Nat) (lb : Array Value) (eg : ∀ args w, (callFunc g args).run Tryz.prog w = .ok (.enter g args) w) (S : List AutM.Ke → Prop) (N : Nat) (hN : N ≤ 100000)
    (hseq : SeqGives Fence.wide (n - 1) Tryz.prog g lb Au.kyV S N w) (base : Nat) (hbase : base ≤ w.heap.size) (A0 : Option Addr) (n0 c0 : Nat) (ks0 : List AutM.Ke) (hn0 : ks0.length = n0) (hl0 : n0 ≤ 1000000) (hown : w.ownsRow base 87 5 (.slice A0 n0 c0) n0 (kcs ks0)) :
    CallsIn Fence.wide n Tryz.prog 119 #[.slice A0 n0 c0, .func (.func g) #[] lb] w fun e w' => ∃ (v : Value) (ks : List AutM.Ke), e = .returned v ∧ S ks ∧ w'.ownsRow base 87 5 v (ks0 ++ ks).length (kcs (ks0 ++ ks)) ∧ Below base w w' := by
  have h1 : 1 ≤ n := by omega
  have h0 : ApAt base ks0 w [] (w.alloc (.cells #[.slice A0 n0 c0] 42)) := ⟨⟨_, World.alloc_heap_new w _, by rw [List.append_nil, hn0]; exact hown.alloc _⟩, (Below.refl _ w).alloc hbase _⟩
  have H0 := Lib.hid h0
  have HBS := Lib.hid hbase
  have HL0 := Lib.hid (show ks0.length ≤ 1000000 by omega)
  have hb0 : Below w.heap.size w (w.alloc (.cells #[.slice A0 n0 c0] 42)) := (Below.refl _ w).alloc (Nat.le_refl _) _
  have HB0 := Lib.hid hb0
  clear hn0 hl0 hown hbase hb0
  have HSEQ := Lib.hid hseq
  clear h0 hseq
  refine callsIn_of_wp_marks Tryz.func119 rfl trivial ?_ rfl
  simp only [Tryz.ntmps119, List.size_toArray, List.length_cons, List.length_nil, Nat.reduceAdd, Nat.reduceSub, Array.replicate_succ, Array.replicate_zero, List.push_toArray, List.append_toArray, List.nil_append, List.cons_append]
  gi_wp2
  refine wpIn_rangeFunc_box rfl h1 rfl trivial eg HSEQ.out HB0.out (ApAt base ks0 w) (ap_own base ks0 w HBS.out _ (by simp)) H0.out ?_ ?_
  · intro l ks x W hI hlen hle hlt
    have HI := Lib.hid hI
    have HLE := Lib.hid hle
    have HLT := Lib.hid hlt
    have HLEN := Lib.hid hlen
    clear hI hlen hle hlt
    change Code.wpIn _ _ _ _ _ { tmps := #[.slice A0 n0 c0, .func (.func g) #[] lb, .pointer (some ⟨w.heap.size, 0, none⟩), undef, .slice none 0 0, undef, .func (.func g) #[] lb, .agg #[.int .u32 (x.a : Int), .int .u32 (x.b : Int), .int .u16 (x.p : Int), .int .u16 (x.q : Int), .int .u8 (x.r : Int)], undef, undef, undef, undef, undef], defers := [] } W
    gi_wp2_with (rw [Oper.semAt_eq _ _ _ (fun c h => by cases h)]; go_simp)
    refine ⟨KeepsOthers.alloc _ _, ?_⟩
    rintro W2 hg ⟨o, ho, hoc⟩
    have hI1 := (ap_own base ks0 w HBS.out w.heap.size (Nat.le_refl _)).alloc (.cells #[.int .u32 (x.a : Int), .int .u32 (x.b : Int), .int .u16 (x.p : Int), .int .u16 (x.q : Int), .int .u8 (x.r : Int)] 87) HI.out
    have hI2 := ap_own base ks0 w HBS.out w.heap.size (Nat.le_refl _) ks _ W2 (some l) hI1 hg (fun r e => by cases e; exact ⟨by have := HLE.out; simp at this; omega, o, ho, hoc⟩)
    obtain ⟨⟨v, hv2, hrow2⟩, hb2⟩ := hI2
    obtain ⟨hc2, hf2⟩ := box_cell hv2
    have HX : Hid (Blk W2 W.heap.size #[.int .u32 (x.a : Int), .int .u32 (x.b : Int), .int .u16 (x.p : Int), .int .u16 (x.q : Int), .int .u8 (x.r : Int)] 87) :=
      (Blk.box W #[.int .u32 (x.a : Int), .int .u32 (x.b : Int), .int .u16 (x.p : Int), .int .u16 (x.q : Int), .int .u8 (x.r : Int)] 87).keep (hg.block _ (by simp) (fun e => by have := HLT.out; cases e; omega))
    obtain ⟨x0, x1, x2, x3, x4⟩ := Ky.ky_cells HX.out
    obtain ⟨i0, hi, hz0, hz1, hz2⟩ := info_parts key_info
    have HV2 := Lib.hid hv2
    have HROW2 := Lib.hid hrow2
    have HB2 := Lib.hid hb2
    clear hv2 hrow2 hb2 hg ho hoc hI1
    gi_wp2_with (first
      | (gi_at_builtin; refine wpListIn_append_own _ rfl _ _ 42 rfl base 87 i0 _ 5 16 slice_key hi hz0 hz1 hz2 rfl (by decide) _ _ _ rfl (HROW2.out.alloc _) ⟨W2.heap.size, 0, none⟩ 1 1 (k5 x) rfl rfl (k5_new W2 x 87) (k5_one x) (by have := HLEN.out; have := HL0.out; rw [List.length_append]; unfold maxLen; omega) (by have := HLEN.out; have := HL0.out; rw [List.length_append]; omega) (by have := HB2.out.size; have := HBS.out; simp; omega) ?_; intro v' w3 hown hg3 _
         obtain ⟨hv3, hk4, hap4⟩ := ap_step HBS.out HV2.out HROW2.out HB2.out _ hown hg3
         obtain ⟨hc3, hf3⟩ := box_cell hv3
         obtain ⟨g', cap', rfl⟩ : ∃ g' cap', v' = .slice (some ⟨g', 0, none⟩) ((ks0 ++ ks).length + 1) cap' := by
           rcases hown.2 with ⟨_, h⟩ | ⟨g, cap, cur, h, _⟩
           · exact absurd h (by omega)
           · exact ⟨g, cap, h⟩
         simp only [List.length_append] at hk4 hap4
         have HK4 := Lib.hid hk4
         have HAP4 := Lib.hid hap4
         clear hown hg3 hv3 hk4 hap4
         go_frame)
      | (rw [Oper.semAt_eq _ _ _ (fun c h => by cases h)]; go_simp))
    exact ⟨HK4.out, HAP4.out⟩
  · intro D ks W hD hS hI hK
    obtain ⟨⟨v, hv, ho⟩, hb⟩ := hI
    have hcell : W.cell? ⟨w.heap.size, 0, none⟩ = some v := by simp [World.cell?, hv]
    gi_wp2
    refine ⟨by simp, .inl ⟨_, _, rfl, run_takeDeferred hK, ?_⟩⟩
    have hg := grownBy_putObj' W D (.deferred none)
    exact ⟨_, results_tmp rfl _ _ _, v, ks, rfl, hS, own_abides ho hg (fun r e => by cases e; exact ⟨_, hK, rfl⟩), hb.grown hg (Nat.le_trans HBS.out hb.size) (fun k e => by cases e; have := HBS.out; simp at hD; omega)⟩
theorem maps_any (M : Nat) (w : World) : Calls Tryz.prog 120 #[.map (some M)] w fun e w' =>
    e = .returned (.func (.func 175) #[] #[.pointer (some ⟨w.heap.size, 0, none⟩)]) ∧ w' = w.alloc (.cells #[.map (some M)] 133) := by
  go_enter Tryz.func120, Tryz.ntmps120
  go_wp2_with fail
  go_ret
  exact ⟨rfl, rfl⟩
/-- What slices.AppendSeq of a stripe's keys hands back. -/
theorem appended {w : World} {Bm M : Nat} {fs : List Fl} (hm : w.cell? ⟨Bm, 0, none⟩ = some (.map (some M))) (hM : MapAt w M fs) (hN : fs.length ≤ 100000) (base : Nat) (hbase : base ≤ w.heap.size) (A0 : Option Addr) (n0 c0 : Nat) (ks0 : List AutM.Ke) (hn0 : ks0.length = n0) (hl0 : n0 ≤ 1000000) (hown : w.ownsRow base 87 5 (.slice A0 n0 c0) n0 (kcs ks0)) :
    Calls Tryz.prog 119 #[.slice A0 n0 c0, .func (.func 175) #[] #[.pointer (some ⟨Bm, 0, none⟩)]] w fun e w' =>
      ∃ (v : Value) (ks : List AutM.Ke), e = .returned v ∧ ks.Perm (fs.map (·.k)) ∧ w'.ownsRow base 87 5 v (ks0 ++ ks).length (kcs (ks0 ++ ks)) ∧ Below base w w' :=
  callsIn_wide.1 (append_any 3 (by omega) w _ _ (fun args w => rfl) _ fs.length hN (keys_give hm hM 2 (by omega)) base hbase A0 n0 c0 ks0 hn0 hl0 hown)
end Tb
end Go.Proofs.YtcockldefmmhbaaGreatDoor
