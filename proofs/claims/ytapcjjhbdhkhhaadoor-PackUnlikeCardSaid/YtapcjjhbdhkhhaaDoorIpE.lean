/- Layer 4: the contract of the reference's Build. -/
import Derived.Test.YtapcjjhbdhkhhaaDoorIpD
import Derived.Test.YtapcjjhbdhkhhaaDoorComT
set_option linter.unusedVariables false
namespace Go.Proofs.YtapcjjhbdhkhhaaDoor
open Go.ChangeShapes Go.WideShapes Go.ChangeAt Go.RowKit Go.Mtl
namespace Ip
open IpM (twoB fourB outB tailB ckB packB)
open SumM (add add_le)

/-- What the reference's Build keeps: the header's box, and all that was there ahead of it. -/
abbrev S7 (W1 w : World) (G : Nat) (pr sr ds tt id : Int) : Prop :=
  w.cell? ⟨G, 0, none⟩ = some (.int .u8 pr) ∧ w.cell? ⟨G, 1, none⟩ = some (.int .u32 sr) ∧ w.cell? ⟨G, 2, none⟩ = some (.int .u32 ds) ∧ w.cell? ⟨G, 5, none⟩ = some (.int .u8 tt) ∧ w.cell? ⟨G, 6, none⟩ = some (.int .u16 id) ∧ Hid (Below W1.heap.size W1 w)
section
variable {W1 w w' : World} {G : Nat} {pr sr ds sz ln tt id : Int}
theorem S7.mk (hx : Hid (Hd W1 G pr sr ds sz ln tt id)) (hb : Below W1.heap.size W1 w) : S7 W1 w G pr sr ds tt id := by
  obtain ⟨h0, h1, h2, _, _, h5, h6⟩ := (hx.out.next hb).cells
  exact ⟨h0, h1, h2, h5, h6, hb⟩
theorem S7.bel (h : S7 W1 w G pr sr ds tt id) : Below W1.heap.size W1 w := h.2.2.2.2.2.out
theorem S7.size1 {W : World} (hg : Hid (W1.heap.size = W.heap.size + 1)) (h : S7 W1 w G pr sr ds tt id) : W.heap.size + 1 ≤ w.heap.size := by rw [← hg.out]; exact h.bel.size
theorem S7.next (hx : Hid (Hd W1 G pr sr ds sz ln tt id)) (h : S7 W1 w G pr sr ds tt id) (hb : Below w.heap.size w w') : S7 W1 w' G pr sr ds tt id := S7.mk hx (h.bel.trans (hb.mono h.bel.size))
theorem S7.alloc (hx : Hid (Hd W1 G pr sr ds sz ln tt id)) (h : S7 W1 w G pr sr ds tt id) (o : Obj) : S7 W1 (w.alloc o) G pr sr ds tt id := S7.mk hx (h.bel.alloc h.bel.size o)
theorem S7.grown (hx : Hid (Hd W1 G pr sr ds sz ln tt id)) (h : S7 W1 w G pr sr ds tt id) {v : Value} {base n : Nat} {xs : List Value} (ho : w.ownsRow base 5 1 v n xs) (hB : W1.heap.size ≤ base) (hg : w.grownBy w' v.ownBlock) : S7 W1 w' G pr sr ds tt id :=
  S7.mk hx (h.bel.grown hg h.bel.size fun k hk => Nat.le_trans hB (ho.lt k hk).1)
end
theorem four_lit (tt pr : Nat) (ht : tt < 256) (hp : pr < 256) : (#[.int .u8 0, .int .u8 0, .int .u8 tt, .int .u8 pr] : Array Value) = (bvs [0, 0, UInt8.ofNat tt, UInt8.ofNat pr]).toArray := by
  simp [bvs]; omega
theorem Row.keep {w w' : World} {g : Nat} {bs : List UInt8} (h : Row w g bs) (hk : w'.heap[g]? = w.heap[g]?) : Row w' g bs := hk.trans h
/-- A row of the call's own, while another row grows. -/
theorem own_other {w w' : World} {base b2 n m : Nat} {v u : Value} {xs ys : List Value} (h : w.ownsRow base 5 1 v n xs) (h2 : w.ownsRow b2 5 1 u m ys) (hg : w.grownBy w' u.ownBlock) (hne : ∀ k, u.ownBlock = some k → k < base) : w'.ownsRow base 5 1 v n xs := by
  refine h.kept hg ?_
  cases hv : v.ownBlock with
  | none => exact .inl rfl
  | some k =>
    refine .inr fun e => ?_
    have h3 := (h.lt k hv).1
    have h4 := hne k e.symm
    omega

theorem own_above {w w' : World} {base b2 n m : Nat} {v u : Value} {xs ys : List Value} (h : w.ownsRow base 5 1 v n xs) (h2 : w.ownsRow b2 5 1 u m ys) (hg : w.grownBy w' u.ownBlock) (hne : ∀ k, v.ownBlock = some k → k < b2) : w'.ownsRow base 5 1 v n xs := by
  refine h.kept hg ?_
  cases hv : v.ownBlock with
  | none => exact .inl rfl
  | some k =>
    refine .inr fun e => ?_
    have h3 := (h2.lt k e.symm).1
    have h4 := hne k hv
    omega
theorem rbuilt_bts {w : World} {base N n c id tt pr sr ds K : Nat} {A : Option Addr} {x : List UInt8} (h1 : 20 + x.length = N) (hl : x.length = n) (hn : 20 + n = N) (hk : K = ckB n id tt pr sr ds)
    (h : w.ownsRow base 5 1 (.slice A N c) N (bvs ((outB n id tt pr ++ twoB K) ++ tailB sr ds ++ x))) : Bts w w.heap.size A N (packB id tt pr sr ds x) := by
  subst hl
  subst hk
  exact own_bts h

/-- What the reference's Build answers. -/
def RBuilt (W : World) (id tt pr sr ds : Nat) (x : List UInt8) (e : Ending) (w' : World) : Prop :=
  ∃ A c, e = .returned (.tuple #[.slice A (20 + x.length) c, .int .i64 0]) ∧ Bts w' w'.heap.size A (20 + x.length) (packB id tt pr sr ds x) ∧ (20 + x.length ≤ c ∧ c ≤ 9223372036854775807) ∧ Below W.heap.size W w'

theorem refBuild_long (A : Option Addr) (n c : Nat) (pr sr ds sz ln tt id : Int) (W : World) (hc : n ≤ c) (hm : c ≤ 9223372036854775807) (h : 1480 < n) :
    Calls Tryd.prog 18 #[.agg (cells7 pr sr ds sz ln tt id), .slice A n c] W fun e w' => e = .returned (.tuple #[.slice none 0 0, .int .i64 2]) ∧ Below W.heap.size W w' := by
  go_enter Tryd.func18, Tryd.ntmps18
  go_wp2_with fail
  go_ret2
  exact ⟨rfl, (Below.refl _ W).alloc (Nat.le_refl _) _⟩

set_option maxHeartbeats 8000000 in
theorem refBuild_ok (A : Option Addr) (n c : Nat) (x : List UInt8) (pr sr ds tt id : Nat) (sz ln : Int) (B : Nat) (W : World) (hb : Bts W B A n x) (hB : B ≤ W.heap.size) (hc : n ≤ c) (hm : c ≤ 9223372036854775807) (h : n ≤ 1480)
    (hpr : pr < 256) (hsr : sr < 4294967296) (hds : ds < 4294967296) (htt : tt < 256) (hid : id < 65536) :
    Calls Tryd.prog 18 #[.agg (cells7 pr sr ds sz ln tt id), .slice A n c] W (RBuilt W id tt pr sr ds x) := by
  obtain ⟨i0, hi0, hz0, hz1, hz2⟩ := info_parts u8_info
  have HL := Lib.hid hb.len
  have HX := Lib.hid (Hd.box W pr sr ds sz ln tt id)
  have HB := Lib.hid (hb.alloc hB (.cells (cells7 pr sr ds sz ln tt id) 42))
  have HW := Lib.hid ((Below.refl _ W).alloc (Nat.le_refl _) (.cells (cells7 pr sr ds sz ln tt id) 42))
  have HG : Hid ((W.alloc (.cells (cells7 pr sr ds sz ln tt id) 42)).heap.size = W.heap.size + 1) := World.size_alloc _ _
  have HBG := Lib.hid hB
  clear hb hB
  go_enter Tryd.func18, Tryd.ntmps18
  have e0 : (20 : Int) + n = ((20 + n : Nat) : Int) := by omega
  obtain ⟨N, hN⟩ : ∃ N, 20 + n = N := ⟨_, rfl⟩
  have HN := Lib.hid hN
  rw [hN] at e0
  have hN1 : 20 ≤ N := by omega
  have hN2 : N ≤ 1500 := by omega
  clear hN
  have HXN : Hid (20 + x.length = N) := by show _ = _; rw [HL.out]; exact HN.out
  go_wp2_with fail
  go_at_call 31
  generalize W.alloc (.cells (cells7 pr sr ds sz ln tt id) 42) = W1 at HX HB HW HG ⊢
  have HO := own_lit W1 [69, 0] 2 rfl (by omega) #[.int .u8 69, .int .u8 0] rfl
  rw [HG.out] at HO
  have HO := Lib.hid HO
  refine (refPut_any N (by omega) _).mono ?_
  rintro e w2 ⟨A2, c2, rfl, ho2, hb2, hc2⟩
  have HP := Lib.hid (own_bts ho2)
  have HO2 := Lib.hid (own_below HO.out hb2)
  have hS2 := ((Below.refl _ W1).alloc (Nat.le_refl _) (.cells #[.int .u8 69, .int .u8 0] 5)).trans (hb2.mono (by simp))
  have HW2 := Lib.hid hS2
  have hsz2 := hS2.size
  have hG := HG.out
  clear ho2 hb2 HO hS2
  rw [hG] at hsz2
  clear hG
  go_wp2_with (at_builtin; refine wpList_append_at 4 rfl (.tmp 12) (.tmp 16) _ rfl (W.heap.size + 1) 5 i0 Tryd.underlying26 hi0 hz0 hz1 hz2 _ 2 _ rfl HO2.out _ A2 2 c2 _ rfl HP.out rfl (by omega) hsz2 ?_
               intro A3 c3 w3 ho3 hg3 hc3
               have HW3 := Lib.hid (HW2.out.grown hg3 (by rw [HG.out]; exact hsz2) (fun k hk => by rw [HG.out]; exact (HO2.out.lt k hk).1))
               have HO3 := Lib.hid ho3
               have hsz3 := HW3.out.size
               rw [HG.out] at hsz3
               clear ho3 hg3 HO2 HP HW2 hc2 hsz2)
  have HO : Hid (w3.drew.ownsRow (W.heap.size + 1) 5 1 (.slice A3 4 c3) 4 (bvs ([69, 0] ++ IpM.twoB N))) := HO3.out
  clear HO3
  have wid : IntKind.i64.wrap (id : Int) = (id : Int) := IntWalk.i64_in _ (by omega)
  -- region 4: by mkIpE.py
  refine wp_region_held_drew (S := (fun w' => w'.cell? ⟨W.heap.size, 0, none⟩ = some (.int .u8 pr) ∧ w'.cell? ⟨W.heap.size, 1, none⟩ = some (.int .u32 sr) ∧ w'.cell? ⟨W.heap.size, 2, none⟩ = some (.int .u32 ds) ∧ w'.cell? ⟨W.heap.size, 5, none⟩ = some (.int .u8 tt) ∧ w'.cell? ⟨W.heap.size, 6, none⟩ = some (.int .u16 id) ∧ Hid (Below W1.heap.size W1 w'))) (by kernel_rfl) (S7.mk HX HW3.out.drew) (fun hH => ?_)
  refine wpAnyH_take (i := 0) (oi := ⟨some 18, _, _, _, _, _⟩) (v := ?v1) rfl (by kernel_rfl) (by kernel_rfl) (by kernel_rfl) (fun _ _ _ h => h) (Or.inl ⟨rfl, ?c1⟩) hH ?r1
  case c1 => (intro w' _; go_simp; (try with_reducible rfl))
  try simp only [Act.put, List.setIfInBounds_toArray, List.set_cons_zero, List.set_cons_succ]
  refine wpAnyH_take (i := 1) (oi := ⟨some 19, _, _, _, _, _⟩) (v := ?v2) rfl (by kernel_rfl) (by kernel_rfl) (by kernel_rfl) (fun _ _ _ h => h) (Or.inl ⟨rfl, ?c2⟩) hH ?r2
  case c2 => (intro w' _; go_simp; (try with_reducible rfl))
  try simp only [Act.put, List.setIfInBounds_toArray, List.set_cons_zero, List.set_cons_succ]
  refine wpAnyH_take (i := 2) (oi := ⟨some 20, _, _, _, _, _⟩) (v := ?v3) rfl (by kernel_rfl) (by kernel_rfl) (by kernel_rfl) (fun _ _ _ h => h) (Or.inl ⟨rfl, ?c3⟩) hH ?r3
  case c3 => (intro w' hS; (try dsimp only at hS); go_simp; (try with_reducible rfl))
  try simp only [Act.put, List.setIfInBounds_toArray, List.set_cons_zero, List.set_cons_succ]
  refine wpAnyH_take (i := 3) (oi := ⟨some 21, _, _, _, _, _⟩) (v := ?v4) rfl (by kernel_rfl) (by kernel_rfl) (by kernel_rfl) (fun _ _ _ h => h) (Or.inl ⟨rfl, ?c4⟩) hH ?r4
  case c4 => (intro w' _; go_simp; (try with_reducible rfl))
  try simp only [Act.put, List.setIfInBounds_toArray, List.set_cons_zero, List.set_cons_succ]
  refine wpAnyH_take (i := 6) (oi := ⟨some 24, _, _, _, _, _⟩) (v := ?v5) rfl (by kernel_rfl) (by kernel_rfl) (by kernel_rfl) (fun _ _ _ h => h) (Or.inl ⟨rfl, ?c5⟩) hH ?r5
  case c5 => (intro w' _; go_simp; (try with_reducible rfl))
  try simp only [Act.put, List.setIfInBounds_toArray, List.set_cons_zero, List.set_cons_succ]
  refine wpAnyH_take (i := 7) (oi := ⟨some 25, _, _, _, _, _⟩) (v := ?v6) rfl (by kernel_rfl) (by kernel_rfl) (by kernel_rfl) (fun _ _ _ h => h) (Or.inl ⟨rfl, ?c6⟩) hH ?r6
  case c6 => (intro w' hS; (try dsimp only at hS); go_simp; (try with_reducible rfl))
  try simp only [Act.put, List.setIfInBounds_toArray, List.set_cons_zero, List.set_cons_succ]
  refine wpAnyH_take (i := 8) (oi := ⟨some 26, _, _, _, _, _⟩) (v := ?v7) rfl (by kernel_rfl) (by kernel_rfl) (by kernel_rfl) (fun _ _ _ h => h) (Or.inl ⟨rfl, ?c7⟩) hH ?r7
  case c7 => (intro w' _; go_simp; (try with_reducible rfl))
  try simp only [Act.put, List.setIfInBounds_toArray, List.set_cons_zero, List.set_cons_succ]
  refine wpAnyH_take (i := 9) (oi := ⟨some 27, _, _, _, _, _⟩) (v := ?v8) rfl (by kernel_rfl) (by kernel_rfl) (by kernel_rfl) (fun _ _ _ h => h) (Or.inl ⟨rfl, ?c8⟩) hH ?r8
  case c8 => (intro w' hS; (try dsimp only at hS); go_simp; (try with_reducible rfl))
  try simp only [Act.put, List.setIfInBounds_toArray, List.set_cons_zero, List.set_cons_succ]
  refine wpAnyH_ready (rs := [4, 10]) (by kernel_rfl) (by simp) (AllReadyH.cons rfl (fun K hK => ?_) (AllReadyH.cons rfl (fun K hK => ?_) (AllReadyH.nil)))
  · go_simp
    go_at_call 31
    refine (refPut_any id (by omega) _).mono ?_
    rintro e w4 ⟨A4, c4, rfl, ho4, hb4, hc4⟩
    refine hK.out _ _ (S7.next HX hH hb4) (fun hH => ?_)
    clear hK K
    have HOn := Lib.hid (own_below HO.out hb4)
    have HP := Lib.hid (own_bts ho4)
    clear HO
    have HO := HOn
    clear HOn
    clear ho4 hb4 hc4
    try simp only [Act.put, List.setIfInBounds_toArray, List.set_cons_zero, List.set_cons_succ]
    refine wpAnyH_ready (rs := [5, 10]) (by kernel_rfl) (by simp) (AllReadyH.cons rfl (fun K hK => ?_) (AllReadyH.cons rfl (fun K hK => ?_) (AllReadyH.nil)))
    · refine step_append_at 6 rfl (.tmp 18) (.tmp 22) _ rfl (W.heap.size + 1) 5 i0 Tryd.underlying26 hi0 hz0 hz1 hz2 _ 4 _ rfl HO.out _ A4 2 c4 _ rfl HP.out rfl (by omega) (S7.size1 HG hH) ?_
      intro A5 c5 w5 ho5 hg5 hc5
      change K (Act.put _ (some 23) _) _
      refine hK.out _ _ (S7.grown HX hH HO.out (Nat.le_of_eq HG.out) hg5) (fun hH => ?_)
      clear hK K
      have HOn := Lib.hid ho5
      clear HO HP ho5 hg5 hc5
      have HO := HOn
      clear HOn
      try simp only [Act.put, List.setIfInBounds_toArray, List.set_cons_zero, List.set_cons_succ]
      refine wpAnyH_ready (rs := [10]) (by kernel_rfl) (by simp) (AllReadyH.cons rfl (fun K hK => ?_) (AllReadyH.nil))
      go_simp
      refine hK.out _ _ (S7.alloc HX hH _) (fun hH => ?_)
      clear hK K
      obtain ⟨g, hgs⟩ : ∃ g, w5.heap.size = g := ⟨_, rfl⟩
      have hq : Row (w5.alloc (.cells #[.int .u8 0, .int .u8 0, .int .u8 tt, .int .u8 pr] 5)) w5.heap.size [0, 0, UInt8.ofNat tt, UInt8.ofNat pr] := by unfold Row; rw [← four_lit tt pr htt hpr]; exact heap_alloc_new w5 _
      have hne : ∀ k, Value.ownBlock _ = some k → k < w5.heap.size := fun k hk => (HO.out.lt k hk).2
      have HOn := Lib.hid (HO.out.alloc (.cells #[.int .u8 0, .int .u8 0, .int .u8 tt, .int .u8 pr] 5))
      rw [hgs] at hq hne ⊢
      clear hgs HO
      have HO : Hid (World.ownsRow (w5.alloc (.cells #[.int .u8 0, .int .u8 0, .int .u8 tt, .int .u8 pr] 5)) _ _ _ _ _ _) := HOn.out
      clear HOn
      generalize w5.alloc (.cells #[.int .u8 0, .int .u8 0, .int .u8 tt, .int .u8 pr] 5) = w10 at hq hH HO ⊢
      try simp only [Act.put, List.setIfInBounds_toArray, List.set_cons_zero, List.set_cons_succ]
      refine wpAnyH_ready (rs := [11]) (by kernel_rfl) (by simp) (AllReadyH.cons rfl (fun K hK => ?_) (AllReadyH.nil))
      refine step_append_at 10 rfl (.tmp 23) (.tmp 28) _ rfl (W.heap.size + 1) 5 i0 Tryd.underlying26 hi0 hz0 hz1 hz2 _ 6 _ rfl HO.out _ (some ⟨g, 0, none⟩) 4 4 _ rfl hq.bts rfl (by omega) (S7.size1 HG hH) ?_
      intro A6 c6 w6 ho6 hg6 hc6
      change K (Act.put _ (some 29) _) _
      refine hK.out _ _ (S7.grown HX hH HO.out (Nat.le_of_eq HG.out) hg6) (fun hH => ?_)
      clear hK K
      clear HO hq
      try clear hne
      have HO : Hid (w6.ownsRow (W.heap.size + 1) 5 1 (.slice A6 10 c6) 10 (bvs (outB n id tt pr))) := by
        have h := HN.out
        subst h
        exact ho6
      have HW6 := hH.2.2.2.2.2
      clear ho6 hg6
      try simp only [Act.put, List.setIfInBounds_toArray, List.set_cons_zero, List.set_cons_succ]
      refine wpAnyH_take (i := 12) (oi := ⟨some 6, _, _, _, _, _⟩) (v := ?v9) rfl (by kernel_rfl) (by kernel_rfl) (by kernel_rfl) (fun _ _ _ h => h) (Or.inl ⟨rfl, ?c9⟩) hH ?r9
      case c9 => (intro w' _; go_simp; (try with_reducible rfl))
      try simp only [Act.put, List.setIfInBounds_toArray, List.set_cons_zero, List.set_cons_succ]
      refine wpAnyH_done (by kernel_rfl) ?_ _
      clear hH
      try clear hne
      go_wp2_with fail
      have HO6 : Hid (w6.drew.ownsRow (W.heap.size + 1) 5 1 (.slice A6 10 c6) 10 (bvs (outB n id tt pr))) := HO.out
      have hne : ∀ k, Value.ownBlock (.slice A6 10 c6) = some k → k < w6.heap.size := fun k hk => (HO.out.lt k hk).2
      clear HO
      refine wp_region_held_drew (S := (fun w' => w'.cell? ⟨W.heap.size, 0, none⟩ = some (.int .u8 pr) ∧ w'.cell? ⟨W.heap.size, 1, none⟩ = some (.int .u32 sr) ∧ w'.cell? ⟨W.heap.size, 2, none⟩ = some (.int .u32 ds) ∧ w'.cell? ⟨W.heap.size, 5, none⟩ = some (.int .u8 tt) ∧ w'.cell? ⟨W.heap.size, 6, none⟩ = some (.int .u16 id) ∧ Hid (Below W1.heap.size W1 w'))) (by kernel_rfl) (S7.mk HX HW6.out.drew) (fun hH => ?_)
      refine wpAnyH_take (i := 0) (oi := ⟨some 30, _, _, _, _, _⟩) (v := ?v10) rfl (by kernel_rfl) (by kernel_rfl) (by kernel_rfl) (fun _ _ _ h => h) (Or.inl ⟨rfl, ?c10⟩) hH ?r10
      case c10 => (intro w' _; go_simp; (try with_reducible rfl))
      try simp only [Act.put, List.setIfInBounds_toArray, List.set_cons_zero, List.set_cons_succ]
      refine wpAnyH_take (i := 1) (oi := ⟨some 31, _, _, _, _, _⟩) (v := ?v11) rfl (by kernel_rfl) (by kernel_rfl) (by kernel_rfl) (fun _ _ _ h => h) (Or.inl ⟨rfl, ?c11⟩) hH ?r11
      case c11 => (intro w' hS; (try dsimp only at hS); go_simp; (try with_reducible rfl))
      try simp only [Act.put, List.setIfInBounds_toArray, List.set_cons_zero, List.set_cons_succ]
      refine wpAnyH_take (i := 3) (oi := ⟨some 33, _, _, _, _, _⟩) (v := ?v12) rfl (by kernel_rfl) (by kernel_rfl) (by kernel_rfl) (fun _ _ _ h => h) (Or.inl ⟨rfl, ?c12⟩) hH ?r12
      case c12 => (intro w' _; go_simp; (try with_reducible rfl))
      try simp only [Act.put, List.setIfInBounds_toArray, List.set_cons_zero, List.set_cons_succ]
      refine wpAnyH_take (i := 4) (oi := ⟨some 34, _, _, _, _, _⟩) (v := ?v13) rfl (by kernel_rfl) (by kernel_rfl) (by kernel_rfl) (fun _ _ _ h => h) (Or.inl ⟨rfl, ?c13⟩) hH ?r13
      case c13 => (intro w' hS; (try dsimp only at hS); go_simp; (try with_reducible rfl))
      try simp only [Act.put, List.setIfInBounds_toArray, List.set_cons_zero, List.set_cons_succ]
      refine wpAnyH_ready (rs := [2]) (by kernel_rfl) (by simp) (AllReadyH.cons rfl (fun K hK => ?_) (AllReadyH.nil))
      go_simp
      go_at_call 34
      refine (wide_any sr (by omega) _).mono ?_
      rintro e w7 ⟨A7, c7, rfl, ho7, hb7, hc7⟩
      refine hK.out _ _ (S7.next HX hH hb7) (fun hH => ?_)
      clear hK K
      have HO7 := Lib.hid (own_below HO6.out hb7)
      have HT7 : Hid (w7.ownsRow w6.heap.size 5 1 (.slice A7 4 c7) 4 (bvs (IpM.fourB sr))) := ho7
      have hsz7 : w6.heap.size ≤ w7.heap.size := hb7.size
      clear HO6 ho7 hb7 hc7
      try simp only [Act.put, List.setIfInBounds_toArray, List.set_cons_zero, List.set_cons_succ]
      refine wpAnyH_ready (rs := [5]) (by kernel_rfl) (by simp) (AllReadyH.cons rfl (fun K hK => ?_) (AllReadyH.nil))
      go_simp
      go_at_call 34
      refine (wide_any ds (by omega) _).mono ?_
      rintro e w8 ⟨A8, c8, rfl, ho8, hb8, hc8⟩
      refine hK.out _ _ (S7.next HX hH hb8) (fun hH => ?_)
      clear hK K
      have HO8 := Lib.hid (own_below HO7.out hb8)
      have HT8 := Lib.hid (own_below HT7.out hb8)
      have HP8 := Lib.hid (own_bts ho8)
      have hsz8 : w6.heap.size ≤ w8.heap.size := Nat.le_trans hsz7 hb8.size
      clear HO7 HT7 ho8 hb8 hc8 hsz7
      try simp only [Act.put, List.setIfInBounds_toArray, List.set_cons_zero, List.set_cons_succ]
      refine wpAnyH_ready (rs := [6]) (by kernel_rfl) (by simp) (AllReadyH.cons rfl (fun K hK => ?_) (AllReadyH.nil))
      refine step_append_at 8 rfl (.tmp 32) (.tmp 35) _ rfl w6.heap.size 5 i0 Tryd.underlying26 hi0 hz0 hz1 hz2 _ 4 _ rfl HT8.out _ A8 4 c8 _ rfl HP8.out rfl (by omega) hsz8 ?_
      intro A9 c9 w9 ho9 hg9 hc9
      change K (Act.put _ (some 36) _) _
      refine hK.out _ _ (S7.grown HX hH HT8.out HW6.out.size hg9) (fun hH => ?_)
      clear hK K
      have HO9 := Lib.hid (own_above HO8.out HT8.out hg9 hne)
      have HT9 : Hid (w9.ownsRow w6.heap.size 5 1 (.slice A9 8 c9) 8 (bvs (tailB sr ds))) := ho9
      have HW9 := hH.2.2.2.2.2
      have hsz9 : w6.heap.size ≤ w9.heap.size := Nat.le_trans hsz8 hg9.size
      clear HO8 HT8 HP8 ho9 hg9 hsz8
      try simp only [Act.put, List.setIfInBounds_toArray, List.set_cons_zero, List.set_cons_succ]
      refine wpAnyH_take (i := 7) (oi := ⟨some 7, _, _, _, _, _⟩) (v := ?v14) rfl (by kernel_rfl) (by kernel_rfl) (by kernel_rfl) (fun _ _ _ h => h) (Or.inl ⟨rfl, ?c14⟩) hH ?r14
      case c14 => (intro w' _; go_simp; (try with_reducible rfl))
      try simp only [Act.put, List.setIfInBounds_toArray, List.set_cons_zero, List.set_cons_succ]
      refine wpAnyH_done (by kernel_rfl) ?_ _
      clear hH
      go_wp2_with (first
        | (refine at_slot 39 ?_
           refine wpList_append_new rfl (.tmp 37) (.tmp 38) _ rfl 5 i0 Tryd.underlying26 hi0 hz0 hz1 hz2 rfl _ A6 10 c6 _ rfl (own_bts HO9.out) (Nat.le_refl _) (by omega) ?_
           intro A10 c10 w10 ho10 hb10 hc10
           have HR10 := Lib.hid ho10
           have HV10 := Lib.hid hb10
           clear ho10 hb10 hc10)
        | (refine at_slot 41 ?_
           refine wpList_append_at 18 rfl (.tmp 39) (.tmp 40) _ rfl w9.heap.size 5 i0 Tryd.underlying26 hi0 hz0 hz1 hz2 _ 10 _ rfl HR10.out _ A9 8 c9 _ rfl (own_bts (own_below HT9.out HV10.out)) rfl (by omega) HV10.out.size ?_
           intro A11 c11 w11 ho11 hg11 hc11
           have HV11 := Lib.hid (HV10.out.grown hg11 HV10.out.size (fun k hk => (HR10.out.lt k hk).1))
           have HR11 := Lib.hid ho11
           clear ho11 hg11 HV10 HR10))
      go_at_call 32
      refine (Sm.refAdd_any 0 A11 18 c11 _ w11 w11.heap.size (own_bts HR11.out) (by omega) hc11.1 (by omega) hc11.2).mono ?_
      rintro e w' ⟨rfl, rfl⟩
      have har := add_le 0 (outB n id tt pr ++ tailB sr ds)
      have HCK : Hid (65535 - add 0 (outB n id tt pr ++ tailB sr ds) = ckB n id tt pr sr ds) := rfl
      generalize add 0 (outB n id tt pr ++ tailB sr ds) = r at har HCK ⊢
      obtain ⟨K, hK⟩ : ∃ K, 65535 - r = K := ⟨_, rfl⟩
      have eK : (65535 : Int) - (r : Int) = (K : Int) := by omega
      have hK2 : K ≤ 65535 := by omega
      rw [hK] at HCK
      clear hK har
      have HO11 := Lib.hid (own_below HO9.out HV11.out)
      have HT11 := Lib.hid (own_below HT9.out HV11.out)
      have HW11 := Lib.hid (HW9.out.trans (HV11.out.mono HW9.out.size))
      have hsz11 : w6.heap.size ≤ w11.heap.size := Nat.le_trans hsz9 HV11.out.size
      clear HO9 HT9 HW9 HV11 HR11 hsz9
      go_wp2_with fail
      go_at_call 31
      refine (refPut_any K (by omega) _).mono ?_
      rintro e w12 ⟨A12, c12, rfl, ho12, hb12, hc12⟩
      have HO12 := Lib.hid (own_below HO11.out hb12)
      have HT12 := Lib.hid (own_below HT11.out hb12)
      have HP12 := Lib.hid (own_bts ho12)
      have HW12 := Lib.hid (HW11.out.trans (hb12.mono HW11.out.size))
      have hsz12 : W.heap.size + 1 ≤ w12.heap.size := by rw [← HG.out]; exact HW12.out.size
      clear HO11 HT11 HW11 ho12 hb12 hc12 hsz11
      go_wp2_with (first
        | (refine at_slot 47 ?_
           refine wpList_append_at 12 rfl (.tmp 44) (.tmp 46) _ rfl (W.heap.size + 1) 5 i0 Tryd.underlying26 hi0 hz0 hz1 hz2 _ 10 _ rfl HO12.out _ A12 2 c12 _ rfl HP12.out rfl (by omega) hsz12 ?_
           intro A13 c13 w13 ho13 hg13 hc13
           have HT13 := Lib.hid (own_other HT12.out HO12.out hg13 hne)
           have HW13 := Lib.hid (HW12.out.grown hg13 HW12.out.size (fun k hk => by rw [HG.out]; exact (HO12.out.lt k hk).1))
           have HO13 := Lib.hid ho13
           have hsz13 : W.heap.size + 1 ≤ w13.heap.size := Nat.le_trans hsz12 hg13.size
           clear ho13 hg13 HT12 HO12 HP12 HW12 hsz12 hc13)
        | (refine at_slot 49 ?_
           refine wpList_append_at 20 rfl (.tmp 47) (.tmp 48) _ rfl (W.heap.size + 1) 5 i0 Tryd.underlying26 hi0 hz0 hz1 hz2 _ 12 _ rfl HO13.out _ A9 8 c9 _ rfl (own_bts HT13.out) rfl (by omega) hsz13 ?_
           intro A14 c14 w14 ho14 hg14 hc14
           have HW14 := Lib.hid (HW13.out.grown hg14 HW13.out.size (fun k hk => by rw [HG.out]; exact (HO13.out.lt k hk).1))
           have HO14 := Lib.hid ho14
           have hsz14 : W.heap.size + 1 ≤ w14.heap.size := Nat.le_trans hsz13 hg14.size
           clear ho14 hg14 HT13 HO13 HW13 hsz13 hc14)
        | (refine at_slot 51 ?_
           refine wpList_append_at N rfl (.tmp 49) (.tmp 50) _ rfl (W.heap.size + 1) 5 i0 Tryd.underlying26 hi0 hz0 hz1 hz2 _ 20 _ rfl HO14.out B A n c x rfl (HB.out.below (HW14.out.mono (by rw [HG.out]; have := HBG.out; omega))) HN.out (by omega) hsz14 ?_
           intro A15 c15 w15 ho15 hg15 hc15
           have HW15 := Lib.hid (HW14.out.grown hg15 HW14.out.size (fun k hk => by rw [HG.out]; exact (HO14.out.lt k hk).1))
           have HO15 := Lib.hid ho15
           clear ho15 hg15 HO14 HW14 hsz14))
      go_ret2
      exact ⟨A15, c15, by rw [HXN.out]; rfl, by rw [HXN.out]; exact rbuilt_bts HXN.out HL.out HN.out HCK.out HO15.out, by rw [HXN.out]; exact hc15, HW.out.trans (HW15.out.mono (by rw [HG.out]; omega))⟩
    · go_simp
      refine hK.out _ _ (S7.alloc HX hH _) (fun hH => ?_)
      clear hK K
      obtain ⟨g, hgs⟩ : ∃ g, w4.heap.size = g := ⟨_, rfl⟩
      have hq : Row (w4.alloc (.cells #[.int .u8 0, .int .u8 0, .int .u8 tt, .int .u8 pr] 5)) w4.heap.size [0, 0, UInt8.ofNat tt, UInt8.ofNat pr] := by unfold Row; rw [← four_lit tt pr htt hpr]; exact heap_alloc_new w4 _
      have hne : ∀ k, Value.ownBlock _ = some k → k < w4.heap.size := fun k hk => (HO.out.lt k hk).2
      have HOn := Lib.hid (HO.out.alloc (.cells #[.int .u8 0, .int .u8 0, .int .u8 tt, .int .u8 pr] 5))
      rw [hgs] at hq hne ⊢
      clear hgs HO
      have HO : Hid (World.ownsRow (w4.alloc (.cells #[.int .u8 0, .int .u8 0, .int .u8 tt, .int .u8 pr] 5)) _ _ _ _ _ _) := HOn.out
      clear HOn
      have HPn := Lib.hid (HP.out.alloc (Nat.le_refl _) (.cells #[.int .u8 0, .int .u8 0, .int .u8 tt, .int .u8 pr] 5))
      clear HP
      have HP := HPn
      clear HPn
      generalize w4.alloc (.cells #[.int .u8 0, .int .u8 0, .int .u8 tt, .int .u8 pr] 5) = w10 at hq hH HO HP ⊢
      try simp only [Act.put, List.setIfInBounds_toArray, List.set_cons_zero, List.set_cons_succ]
      refine wpAnyH_ready (rs := [5]) (by kernel_rfl) (by simp) (AllReadyH.cons rfl (fun K hK => ?_) (AllReadyH.nil))
      refine step_append_at 6 rfl (.tmp 18) (.tmp 22) _ rfl (W.heap.size + 1) 5 i0 Tryd.underlying26 hi0 hz0 hz1 hz2 _ 4 _ rfl HO.out _ A4 2 c4 _ rfl HP.out rfl (by omega) (S7.size1 HG hH) ?_
      intro A5 c5 w5 ho5 hg5 hc5
      change K (Act.put _ (some 23) _) _
      refine hK.out _ _ (S7.grown HX hH HO.out (Nat.le_of_eq HG.out) hg5) (fun hH => ?_)
      clear hK K
      have HOn := Lib.hid ho5
      have hq5 := hq.keep (hg5.block _ hq.lt (fun e => Nat.lt_irrefl _ (hne _ e.symm)))
      clear hq hne
      have hq := hq5
      clear hq5
      clear HO HP ho5 hg5 hc5
      have HO := HOn
      clear HOn
      try simp only [Act.put, List.setIfInBounds_toArray, List.set_cons_zero, List.set_cons_succ]
      refine wpAnyH_ready (rs := [11]) (by kernel_rfl) (by simp) (AllReadyH.cons rfl (fun K hK => ?_) (AllReadyH.nil))
      refine step_append_at 10 rfl (.tmp 23) (.tmp 28) _ rfl (W.heap.size + 1) 5 i0 Tryd.underlying26 hi0 hz0 hz1 hz2 _ 6 _ rfl HO.out _ (some ⟨g, 0, none⟩) 4 4 _ rfl hq.bts rfl (by omega) (S7.size1 HG hH) ?_
      intro A6 c6 w6 ho6 hg6 hc6
      change K (Act.put _ (some 29) _) _
      refine hK.out _ _ (S7.grown HX hH HO.out (Nat.le_of_eq HG.out) hg6) (fun hH => ?_)
      clear hK K
      clear HO hq
      try clear hne
      have HO : Hid (w6.ownsRow (W.heap.size + 1) 5 1 (.slice A6 10 c6) 10 (bvs (outB n id tt pr))) := by
        have h := HN.out
        subst h
        exact ho6
      have HW6 := hH.2.2.2.2.2
      clear ho6 hg6
      try simp only [Act.put, List.setIfInBounds_toArray, List.set_cons_zero, List.set_cons_succ]
      refine wpAnyH_take (i := 12) (oi := ⟨some 6, _, _, _, _, _⟩) (v := ?v15) rfl (by kernel_rfl) (by kernel_rfl) (by kernel_rfl) (fun _ _ _ h => h) (Or.inl ⟨rfl, ?c15⟩) hH ?r15
      case c15 => (intro w' _; go_simp; (try with_reducible rfl))
      try simp only [Act.put, List.setIfInBounds_toArray, List.set_cons_zero, List.set_cons_succ]
      refine wpAnyH_done (by kernel_rfl) ?_ _
      clear hH
      try clear hne
      go_wp2_with fail
      have HO6 : Hid (w6.drew.ownsRow (W.heap.size + 1) 5 1 (.slice A6 10 c6) 10 (bvs (outB n id tt pr))) := HO.out
      have hne : ∀ k, Value.ownBlock (.slice A6 10 c6) = some k → k < w6.heap.size := fun k hk => (HO.out.lt k hk).2
      clear HO
      refine wp_region_held_drew (S := (fun w' => w'.cell? ⟨W.heap.size, 0, none⟩ = some (.int .u8 pr) ∧ w'.cell? ⟨W.heap.size, 1, none⟩ = some (.int .u32 sr) ∧ w'.cell? ⟨W.heap.size, 2, none⟩ = some (.int .u32 ds) ∧ w'.cell? ⟨W.heap.size, 5, none⟩ = some (.int .u8 tt) ∧ w'.cell? ⟨W.heap.size, 6, none⟩ = some (.int .u16 id) ∧ Hid (Below W1.heap.size W1 w'))) (by kernel_rfl) (S7.mk HX HW6.out.drew) (fun hH => ?_)
      refine wpAnyH_take (i := 0) (oi := ⟨some 30, _, _, _, _, _⟩) (v := ?v16) rfl (by kernel_rfl) (by kernel_rfl) (by kernel_rfl) (fun _ _ _ h => h) (Or.inl ⟨rfl, ?c16⟩) hH ?r16
      case c16 => (intro w' _; go_simp; (try with_reducible rfl))
      try simp only [Act.put, List.setIfInBounds_toArray, List.set_cons_zero, List.set_cons_succ]
      refine wpAnyH_take (i := 1) (oi := ⟨some 31, _, _, _, _, _⟩) (v := ?v17) rfl (by kernel_rfl) (by kernel_rfl) (by kernel_rfl) (fun _ _ _ h => h) (Or.inl ⟨rfl, ?c17⟩) hH ?r17
      case c17 => (intro w' hS; (try dsimp only at hS); go_simp; (try with_reducible rfl))
      try simp only [Act.put, List.setIfInBounds_toArray, List.set_cons_zero, List.set_cons_succ]
      refine wpAnyH_take (i := 3) (oi := ⟨some 33, _, _, _, _, _⟩) (v := ?v18) rfl (by kernel_rfl) (by kernel_rfl) (by kernel_rfl) (fun _ _ _ h => h) (Or.inl ⟨rfl, ?c18⟩) hH ?r18
      case c18 => (intro w' _; go_simp; (try with_reducible rfl))
      try simp only [Act.put, List.setIfInBounds_toArray, List.set_cons_zero, List.set_cons_succ]
      refine wpAnyH_take (i := 4) (oi := ⟨some 34, _, _, _, _, _⟩) (v := ?v19) rfl (by kernel_rfl) (by kernel_rfl) (by kernel_rfl) (fun _ _ _ h => h) (Or.inl ⟨rfl, ?c19⟩) hH ?r19
      case c19 => (intro w' hS; (try dsimp only at hS); go_simp; (try with_reducible rfl))
      try simp only [Act.put, List.setIfInBounds_toArray, List.set_cons_zero, List.set_cons_succ]
      refine wpAnyH_ready (rs := [2]) (by kernel_rfl) (by simp) (AllReadyH.cons rfl (fun K hK => ?_) (AllReadyH.nil))
      go_simp
      go_at_call 34
      refine (wide_any sr (by omega) _).mono ?_
      rintro e w7 ⟨A7, c7, rfl, ho7, hb7, hc7⟩
      refine hK.out _ _ (S7.next HX hH hb7) (fun hH => ?_)
      clear hK K
      have HO7 := Lib.hid (own_below HO6.out hb7)
      have HT7 : Hid (w7.ownsRow w6.heap.size 5 1 (.slice A7 4 c7) 4 (bvs (IpM.fourB sr))) := ho7
      have hsz7 : w6.heap.size ≤ w7.heap.size := hb7.size
      clear HO6 ho7 hb7 hc7
      try simp only [Act.put, List.setIfInBounds_toArray, List.set_cons_zero, List.set_cons_succ]
      refine wpAnyH_ready (rs := [5]) (by kernel_rfl) (by simp) (AllReadyH.cons rfl (fun K hK => ?_) (AllReadyH.nil))
      go_simp
      go_at_call 34
      refine (wide_any ds (by omega) _).mono ?_
      rintro e w8 ⟨A8, c8, rfl, ho8, hb8, hc8⟩
      refine hK.out _ _ (S7.next HX hH hb8) (fun hH => ?_)
      clear hK K
      have HO8 := Lib.hid (own_below HO7.out hb8)
      have HT8 := Lib.hid (own_below HT7.out hb8)
      have HP8 := Lib.hid (own_bts ho8)
      have hsz8 : w6.heap.size ≤ w8.heap.size := Nat.le_trans hsz7 hb8.size
      clear HO7 HT7 ho8 hb8 hc8 hsz7
      try simp only [Act.put, List.setIfInBounds_toArray, List.set_cons_zero, List.set_cons_succ]
      refine wpAnyH_ready (rs := [6]) (by kernel_rfl) (by simp) (AllReadyH.cons rfl (fun K hK => ?_) (AllReadyH.nil))
      refine step_append_at 8 rfl (.tmp 32) (.tmp 35) _ rfl w6.heap.size 5 i0 Tryd.underlying26 hi0 hz0 hz1 hz2 _ 4 _ rfl HT8.out _ A8 4 c8 _ rfl HP8.out rfl (by omega) hsz8 ?_
      intro A9 c9 w9 ho9 hg9 hc9
      change K (Act.put _ (some 36) _) _
      refine hK.out _ _ (S7.grown HX hH HT8.out HW6.out.size hg9) (fun hH => ?_)
      clear hK K
      have HO9 := Lib.hid (own_above HO8.out HT8.out hg9 hne)
      have HT9 : Hid (w9.ownsRow w6.heap.size 5 1 (.slice A9 8 c9) 8 (bvs (tailB sr ds))) := ho9
      have HW9 := hH.2.2.2.2.2
      have hsz9 : w6.heap.size ≤ w9.heap.size := Nat.le_trans hsz8 hg9.size
      clear HO8 HT8 HP8 ho9 hg9 hsz8
      try simp only [Act.put, List.setIfInBounds_toArray, List.set_cons_zero, List.set_cons_succ]
      refine wpAnyH_take (i := 7) (oi := ⟨some 7, _, _, _, _, _⟩) (v := ?v20) rfl (by kernel_rfl) (by kernel_rfl) (by kernel_rfl) (fun _ _ _ h => h) (Or.inl ⟨rfl, ?c20⟩) hH ?r20
      case c20 => (intro w' _; go_simp; (try with_reducible rfl))
      try simp only [Act.put, List.setIfInBounds_toArray, List.set_cons_zero, List.set_cons_succ]
      refine wpAnyH_done (by kernel_rfl) ?_ _
      clear hH
      go_wp2_with (first
        | (refine at_slot 39 ?_
           refine wpList_append_new rfl (.tmp 37) (.tmp 38) _ rfl 5 i0 Tryd.underlying26 hi0 hz0 hz1 hz2 rfl _ A6 10 c6 _ rfl (own_bts HO9.out) (Nat.le_refl _) (by omega) ?_
           intro A10 c10 w10 ho10 hb10 hc10
           have HR10 := Lib.hid ho10
           have HV10 := Lib.hid hb10
           clear ho10 hb10 hc10)
        | (refine at_slot 41 ?_
           refine wpList_append_at 18 rfl (.tmp 39) (.tmp 40) _ rfl w9.heap.size 5 i0 Tryd.underlying26 hi0 hz0 hz1 hz2 _ 10 _ rfl HR10.out _ A9 8 c9 _ rfl (own_bts (own_below HT9.out HV10.out)) rfl (by omega) HV10.out.size ?_
           intro A11 c11 w11 ho11 hg11 hc11
           have HV11 := Lib.hid (HV10.out.grown hg11 HV10.out.size (fun k hk => (HR10.out.lt k hk).1))
           have HR11 := Lib.hid ho11
           clear ho11 hg11 HV10 HR10))
      go_at_call 32
      refine (Sm.refAdd_any 0 A11 18 c11 _ w11 w11.heap.size (own_bts HR11.out) (by omega) hc11.1 (by omega) hc11.2).mono ?_
      rintro e w' ⟨rfl, rfl⟩
      have har := add_le 0 (outB n id tt pr ++ tailB sr ds)
      have HCK : Hid (65535 - add 0 (outB n id tt pr ++ tailB sr ds) = ckB n id tt pr sr ds) := rfl
      generalize add 0 (outB n id tt pr ++ tailB sr ds) = r at har HCK ⊢
      obtain ⟨K, hK⟩ : ∃ K, 65535 - r = K := ⟨_, rfl⟩
      have eK : (65535 : Int) - (r : Int) = (K : Int) := by omega
      have hK2 : K ≤ 65535 := by omega
      rw [hK] at HCK
      clear hK har
      have HO11 := Lib.hid (own_below HO9.out HV11.out)
      have HT11 := Lib.hid (own_below HT9.out HV11.out)
      have HW11 := Lib.hid (HW9.out.trans (HV11.out.mono HW9.out.size))
      have hsz11 : w6.heap.size ≤ w11.heap.size := Nat.le_trans hsz9 HV11.out.size
      clear HO9 HT9 HW9 HV11 HR11 hsz9
      go_wp2_with fail
      go_at_call 31
      refine (refPut_any K (by omega) _).mono ?_
      rintro e w12 ⟨A12, c12, rfl, ho12, hb12, hc12⟩
      have HO12 := Lib.hid (own_below HO11.out hb12)
      have HT12 := Lib.hid (own_below HT11.out hb12)
      have HP12 := Lib.hid (own_bts ho12)
      have HW12 := Lib.hid (HW11.out.trans (hb12.mono HW11.out.size))
      have hsz12 : W.heap.size + 1 ≤ w12.heap.size := by rw [← HG.out]; exact HW12.out.size
      clear HO11 HT11 HW11 ho12 hb12 hc12 hsz11
      go_wp2_with (first
        | (refine at_slot 47 ?_
           refine wpList_append_at 12 rfl (.tmp 44) (.tmp 46) _ rfl (W.heap.size + 1) 5 i0 Tryd.underlying26 hi0 hz0 hz1 hz2 _ 10 _ rfl HO12.out _ A12 2 c12 _ rfl HP12.out rfl (by omega) hsz12 ?_
           intro A13 c13 w13 ho13 hg13 hc13
           have HT13 := Lib.hid (own_other HT12.out HO12.out hg13 hne)
           have HW13 := Lib.hid (HW12.out.grown hg13 HW12.out.size (fun k hk => by rw [HG.out]; exact (HO12.out.lt k hk).1))
           have HO13 := Lib.hid ho13
           have hsz13 : W.heap.size + 1 ≤ w13.heap.size := Nat.le_trans hsz12 hg13.size
           clear ho13 hg13 HT12 HO12 HP12 HW12 hsz12 hc13)
        | (refine at_slot 49 ?_
           refine wpList_append_at 20 rfl (.tmp 47) (.tmp 48) _ rfl (W.heap.size + 1) 5 i0 Tryd.underlying26 hi0 hz0 hz1 hz2 _ 12 _ rfl HO13.out _ A9 8 c9 _ rfl (own_bts HT13.out) rfl (by omega) hsz13 ?_
           intro A14 c14 w14 ho14 hg14 hc14
           have HW14 := Lib.hid (HW13.out.grown hg14 HW13.out.size (fun k hk => by rw [HG.out]; exact (HO13.out.lt k hk).1))
           have HO14 := Lib.hid ho14
           have hsz14 : W.heap.size + 1 ≤ w14.heap.size := Nat.le_trans hsz13 hg14.size
           clear ho14 hg14 HT13 HO13 HW13 hsz13 hc14)
        | (refine at_slot 51 ?_
           refine wpList_append_at N rfl (.tmp 49) (.tmp 50) _ rfl (W.heap.size + 1) 5 i0 Tryd.underlying26 hi0 hz0 hz1 hz2 _ 20 _ rfl HO14.out B A n c x rfl (HB.out.below (HW14.out.mono (by rw [HG.out]; have := HBG.out; omega))) HN.out (by omega) hsz14 ?_
           intro A15 c15 w15 ho15 hg15 hc15
           have HW15 := Lib.hid (HW14.out.grown hg15 HW14.out.size (fun k hk => by rw [HG.out]; exact (HO14.out.lt k hk).1))
           have HO15 := Lib.hid ho15
           clear ho15 hg15 HO14 HW14 hsz14))
      go_ret2
      exact ⟨A15, c15, by rw [HXN.out]; rfl, by rw [HXN.out]; exact rbuilt_bts HXN.out HL.out HN.out HCK.out HO15.out, by rw [HXN.out]; exact hc15, HW.out.trans (HW15.out.mono (by rw [HG.out]; omega))⟩
  · go_simp
    refine hK.out _ _ (S7.alloc HX hH _) (fun hH => ?_)
    clear hK K
    obtain ⟨g, hgs⟩ : ∃ g, w3.heap.size = g := ⟨_, rfl⟩
    have hq : Row ((w3.alloc (.cells #[.int .u8 0, .int .u8 0, .int .u8 tt, .int .u8 pr] 5)).drew) w3.heap.size [0, 0, UInt8.ofNat tt, UInt8.ofNat pr] := by unfold Row; rw [← four_lit tt pr htt hpr]; exact heap_alloc_new w3 _
    have hne : ∀ k, Value.ownBlock _ = some k → k < w3.heap.size := fun k hk => (HO.out.lt k hk).2
    have HOn := Lib.hid (HO.out.alloc (.cells #[.int .u8 0, .int .u8 0, .int .u8 tt, .int .u8 pr] 5))
    rw [hgs] at hq hne ⊢
    clear hgs HO
    have HO : Hid (World.ownsRow ((w3.alloc (.cells #[.int .u8 0, .int .u8 0, .int .u8 tt, .int .u8 pr] 5)).drew) _ _ _ _ _ _) := HOn.out
    clear HOn
    generalize (w3.alloc (.cells #[.int .u8 0, .int .u8 0, .int .u8 tt, .int .u8 pr] 5)).drew = w10 at hq hH HO ⊢
    try simp only [Act.put, List.setIfInBounds_toArray, List.set_cons_zero, List.set_cons_succ]
    refine wpAnyH_ready (rs := [4]) (by kernel_rfl) (by simp) (AllReadyH.cons rfl (fun K hK => ?_) (AllReadyH.nil))
    go_simp
    go_at_call 31
    refine (refPut_any id (by omega) _).mono ?_
    rintro e w4 ⟨A4, c4, rfl, ho4, hb4, hc4⟩
    refine hK.out _ _ (S7.next HX hH hb4) (fun hH => ?_)
    clear hK K
    have HOn := Lib.hid (own_below HO.out hb4)
    have HP := Lib.hid (own_bts ho4)
    clear HO
    have HO := HOn
    clear HOn
    have hq4 := hq.keep (hb4.block _ hq.lt)
    clear hq
    have hq := hq4
    clear hq4
    clear ho4 hb4 hc4
    try simp only [Act.put, List.setIfInBounds_toArray, List.set_cons_zero, List.set_cons_succ]
    refine wpAnyH_ready (rs := [5]) (by kernel_rfl) (by simp) (AllReadyH.cons rfl (fun K hK => ?_) (AllReadyH.nil))
    refine step_append_at 6 rfl (.tmp 18) (.tmp 22) _ rfl (W.heap.size + 1) 5 i0 Tryd.underlying26 hi0 hz0 hz1 hz2 _ 4 _ rfl HO.out _ A4 2 c4 _ rfl HP.out rfl (by omega) (S7.size1 HG hH) ?_
    intro A5 c5 w5 ho5 hg5 hc5
    change K (Act.put _ (some 23) _) _
    refine hK.out _ _ (S7.grown HX hH HO.out (Nat.le_of_eq HG.out) hg5) (fun hH => ?_)
    clear hK K
    have HOn := Lib.hid ho5
    have hq5 := hq.keep (hg5.block _ hq.lt (fun e => Nat.lt_irrefl _ (hne _ e.symm)))
    clear hq hne
    have hq := hq5
    clear hq5
    clear HO HP ho5 hg5 hc5
    have HO := HOn
    clear HOn
    try simp only [Act.put, List.setIfInBounds_toArray, List.set_cons_zero, List.set_cons_succ]
    refine wpAnyH_ready (rs := [11]) (by kernel_rfl) (by simp) (AllReadyH.cons rfl (fun K hK => ?_) (AllReadyH.nil))
    refine step_append_at 10 rfl (.tmp 23) (.tmp 28) _ rfl (W.heap.size + 1) 5 i0 Tryd.underlying26 hi0 hz0 hz1 hz2 _ 6 _ rfl HO.out _ (some ⟨g, 0, none⟩) 4 4 _ rfl hq.bts rfl (by omega) (S7.size1 HG hH) ?_
    intro A6 c6 w6 ho6 hg6 hc6
    change K (Act.put _ (some 29) _) _
    refine hK.out _ _ (S7.grown HX hH HO.out (Nat.le_of_eq HG.out) hg6) (fun hH => ?_)
    clear hK K
    clear HO hq
    try clear hne
    have HO : Hid (w6.ownsRow (W.heap.size + 1) 5 1 (.slice A6 10 c6) 10 (bvs (outB n id tt pr))) := by
      have h := HN.out
      subst h
      exact ho6
    have HW6 := hH.2.2.2.2.2
    clear ho6 hg6
    try simp only [Act.put, List.setIfInBounds_toArray, List.set_cons_zero, List.set_cons_succ]
    refine wpAnyH_take (i := 12) (oi := ⟨some 6, _, _, _, _, _⟩) (v := ?v21) rfl (by kernel_rfl) (by kernel_rfl) (by kernel_rfl) (fun _ _ _ h => h) (Or.inl ⟨rfl, ?c21⟩) hH ?r21
    case c21 => (intro w' _; go_simp; (try with_reducible rfl))
    try simp only [Act.put, List.setIfInBounds_toArray, List.set_cons_zero, List.set_cons_succ]
    refine wpAnyH_done (by kernel_rfl) ?_ _
    clear hH
    try clear hne
    go_wp2_with fail
    have HO6 : Hid (w6.drew.ownsRow (W.heap.size + 1) 5 1 (.slice A6 10 c6) 10 (bvs (outB n id tt pr))) := HO.out
    have hne : ∀ k, Value.ownBlock (.slice A6 10 c6) = some k → k < w6.heap.size := fun k hk => (HO.out.lt k hk).2
    clear HO
    refine wp_region_held_drew (S := (fun w' => w'.cell? ⟨W.heap.size, 0, none⟩ = some (.int .u8 pr) ∧ w'.cell? ⟨W.heap.size, 1, none⟩ = some (.int .u32 sr) ∧ w'.cell? ⟨W.heap.size, 2, none⟩ = some (.int .u32 ds) ∧ w'.cell? ⟨W.heap.size, 5, none⟩ = some (.int .u8 tt) ∧ w'.cell? ⟨W.heap.size, 6, none⟩ = some (.int .u16 id) ∧ Hid (Below W1.heap.size W1 w'))) (by kernel_rfl) (S7.mk HX HW6.out.drew) (fun hH => ?_)
    refine wpAnyH_take (i := 0) (oi := ⟨some 30, _, _, _, _, _⟩) (v := ?v22) rfl (by kernel_rfl) (by kernel_rfl) (by kernel_rfl) (fun _ _ _ h => h) (Or.inl ⟨rfl, ?c22⟩) hH ?r22
    case c22 => (intro w' _; go_simp; (try with_reducible rfl))
    try simp only [Act.put, List.setIfInBounds_toArray, List.set_cons_zero, List.set_cons_succ]
    refine wpAnyH_take (i := 1) (oi := ⟨some 31, _, _, _, _, _⟩) (v := ?v23) rfl (by kernel_rfl) (by kernel_rfl) (by kernel_rfl) (fun _ _ _ h => h) (Or.inl ⟨rfl, ?c23⟩) hH ?r23
    case c23 => (intro w' hS; (try dsimp only at hS); go_simp; (try with_reducible rfl))
    try simp only [Act.put, List.setIfInBounds_toArray, List.set_cons_zero, List.set_cons_succ]
    refine wpAnyH_take (i := 3) (oi := ⟨some 33, _, _, _, _, _⟩) (v := ?v24) rfl (by kernel_rfl) (by kernel_rfl) (by kernel_rfl) (fun _ _ _ h => h) (Or.inl ⟨rfl, ?c24⟩) hH ?r24
    case c24 => (intro w' _; go_simp; (try with_reducible rfl))
    try simp only [Act.put, List.setIfInBounds_toArray, List.set_cons_zero, List.set_cons_succ]
    refine wpAnyH_take (i := 4) (oi := ⟨some 34, _, _, _, _, _⟩) (v := ?v25) rfl (by kernel_rfl) (by kernel_rfl) (by kernel_rfl) (fun _ _ _ h => h) (Or.inl ⟨rfl, ?c25⟩) hH ?r25
    case c25 => (intro w' hS; (try dsimp only at hS); go_simp; (try with_reducible rfl))
    try simp only [Act.put, List.setIfInBounds_toArray, List.set_cons_zero, List.set_cons_succ]
    refine wpAnyH_ready (rs := [2]) (by kernel_rfl) (by simp) (AllReadyH.cons rfl (fun K hK => ?_) (AllReadyH.nil))
    go_simp
    go_at_call 34
    refine (wide_any sr (by omega) _).mono ?_
    rintro e w7 ⟨A7, c7, rfl, ho7, hb7, hc7⟩
    refine hK.out _ _ (S7.next HX hH hb7) (fun hH => ?_)
    clear hK K
    have HO7 := Lib.hid (own_below HO6.out hb7)
    have HT7 : Hid (w7.ownsRow w6.heap.size 5 1 (.slice A7 4 c7) 4 (bvs (IpM.fourB sr))) := ho7
    have hsz7 : w6.heap.size ≤ w7.heap.size := hb7.size
    clear HO6 ho7 hb7 hc7
    try simp only [Act.put, List.setIfInBounds_toArray, List.set_cons_zero, List.set_cons_succ]
    refine wpAnyH_ready (rs := [5]) (by kernel_rfl) (by simp) (AllReadyH.cons rfl (fun K hK => ?_) (AllReadyH.nil))
    go_simp
    go_at_call 34
    refine (wide_any ds (by omega) _).mono ?_
    rintro e w8 ⟨A8, c8, rfl, ho8, hb8, hc8⟩
    refine hK.out _ _ (S7.next HX hH hb8) (fun hH => ?_)
    clear hK K
    have HO8 := Lib.hid (own_below HO7.out hb8)
    have HT8 := Lib.hid (own_below HT7.out hb8)
    have HP8 := Lib.hid (own_bts ho8)
    have hsz8 : w6.heap.size ≤ w8.heap.size := Nat.le_trans hsz7 hb8.size
    clear HO7 HT7 ho8 hb8 hc8 hsz7
    try simp only [Act.put, List.setIfInBounds_toArray, List.set_cons_zero, List.set_cons_succ]
    refine wpAnyH_ready (rs := [6]) (by kernel_rfl) (by simp) (AllReadyH.cons rfl (fun K hK => ?_) (AllReadyH.nil))
    refine step_append_at 8 rfl (.tmp 32) (.tmp 35) _ rfl w6.heap.size 5 i0 Tryd.underlying26 hi0 hz0 hz1 hz2 _ 4 _ rfl HT8.out _ A8 4 c8 _ rfl HP8.out rfl (by omega) hsz8 ?_
    intro A9 c9 w9 ho9 hg9 hc9
    change K (Act.put _ (some 36) _) _
    refine hK.out _ _ (S7.grown HX hH HT8.out HW6.out.size hg9) (fun hH => ?_)
    clear hK K
    have HO9 := Lib.hid (own_above HO8.out HT8.out hg9 hne)
    have HT9 : Hid (w9.ownsRow w6.heap.size 5 1 (.slice A9 8 c9) 8 (bvs (tailB sr ds))) := ho9
    have HW9 := hH.2.2.2.2.2
    have hsz9 : w6.heap.size ≤ w9.heap.size := Nat.le_trans hsz8 hg9.size
    clear HO8 HT8 HP8 ho9 hg9 hsz8
    try simp only [Act.put, List.setIfInBounds_toArray, List.set_cons_zero, List.set_cons_succ]
    refine wpAnyH_take (i := 7) (oi := ⟨some 7, _, _, _, _, _⟩) (v := ?v26) rfl (by kernel_rfl) (by kernel_rfl) (by kernel_rfl) (fun _ _ _ h => h) (Or.inl ⟨rfl, ?c26⟩) hH ?r26
    case c26 => (intro w' _; go_simp; (try with_reducible rfl))
    try simp only [Act.put, List.setIfInBounds_toArray, List.set_cons_zero, List.set_cons_succ]
    refine wpAnyH_done (by kernel_rfl) ?_ _
    clear hH
    go_wp2_with (first
      | (refine at_slot 39 ?_
         refine wpList_append_new rfl (.tmp 37) (.tmp 38) _ rfl 5 i0 Tryd.underlying26 hi0 hz0 hz1 hz2 rfl _ A6 10 c6 _ rfl (own_bts HO9.out) (Nat.le_refl _) (by omega) ?_
         intro A10 c10 w10 ho10 hb10 hc10
         have HR10 := Lib.hid ho10
         have HV10 := Lib.hid hb10
         clear ho10 hb10 hc10)
      | (refine at_slot 41 ?_
         refine wpList_append_at 18 rfl (.tmp 39) (.tmp 40) _ rfl w9.heap.size 5 i0 Tryd.underlying26 hi0 hz0 hz1 hz2 _ 10 _ rfl HR10.out _ A9 8 c9 _ rfl (own_bts (own_below HT9.out HV10.out)) rfl (by omega) HV10.out.size ?_
         intro A11 c11 w11 ho11 hg11 hc11
         have HV11 := Lib.hid (HV10.out.grown hg11 HV10.out.size (fun k hk => (HR10.out.lt k hk).1))
         have HR11 := Lib.hid ho11
         clear ho11 hg11 HV10 HR10))
    go_at_call 32
    refine (Sm.refAdd_any 0 A11 18 c11 _ w11 w11.heap.size (own_bts HR11.out) (by omega) hc11.1 (by omega) hc11.2).mono ?_
    rintro e w' ⟨rfl, rfl⟩
    have har := add_le 0 (outB n id tt pr ++ tailB sr ds)
    have HCK : Hid (65535 - add 0 (outB n id tt pr ++ tailB sr ds) = ckB n id tt pr sr ds) := rfl
    generalize add 0 (outB n id tt pr ++ tailB sr ds) = r at har HCK ⊢
    obtain ⟨K, hK⟩ : ∃ K, 65535 - r = K := ⟨_, rfl⟩
    have eK : (65535 : Int) - (r : Int) = (K : Int) := by omega
    have hK2 : K ≤ 65535 := by omega
    rw [hK] at HCK
    clear hK har
    have HO11 := Lib.hid (own_below HO9.out HV11.out)
    have HT11 := Lib.hid (own_below HT9.out HV11.out)
    have HW11 := Lib.hid (HW9.out.trans (HV11.out.mono HW9.out.size))
    have hsz11 : w6.heap.size ≤ w11.heap.size := Nat.le_trans hsz9 HV11.out.size
    clear HO9 HT9 HW9 HV11 HR11 hsz9
    go_wp2_with fail
    go_at_call 31
    refine (refPut_any K (by omega) _).mono ?_
    rintro e w12 ⟨A12, c12, rfl, ho12, hb12, hc12⟩
    have HO12 := Lib.hid (own_below HO11.out hb12)
    have HT12 := Lib.hid (own_below HT11.out hb12)
    have HP12 := Lib.hid (own_bts ho12)
    have HW12 := Lib.hid (HW11.out.trans (hb12.mono HW11.out.size))
    have hsz12 : W.heap.size + 1 ≤ w12.heap.size := by rw [← HG.out]; exact HW12.out.size
    clear HO11 HT11 HW11 ho12 hb12 hc12 hsz11
    go_wp2_with (first
      | (refine at_slot 47 ?_
         refine wpList_append_at 12 rfl (.tmp 44) (.tmp 46) _ rfl (W.heap.size + 1) 5 i0 Tryd.underlying26 hi0 hz0 hz1 hz2 _ 10 _ rfl HO12.out _ A12 2 c12 _ rfl HP12.out rfl (by omega) hsz12 ?_
         intro A13 c13 w13 ho13 hg13 hc13
         have HT13 := Lib.hid (own_other HT12.out HO12.out hg13 hne)
         have HW13 := Lib.hid (HW12.out.grown hg13 HW12.out.size (fun k hk => by rw [HG.out]; exact (HO12.out.lt k hk).1))
         have HO13 := Lib.hid ho13
         have hsz13 : W.heap.size + 1 ≤ w13.heap.size := Nat.le_trans hsz12 hg13.size
         clear ho13 hg13 HT12 HO12 HP12 HW12 hsz12 hc13)
      | (refine at_slot 49 ?_
         refine wpList_append_at 20 rfl (.tmp 47) (.tmp 48) _ rfl (W.heap.size + 1) 5 i0 Tryd.underlying26 hi0 hz0 hz1 hz2 _ 12 _ rfl HO13.out _ A9 8 c9 _ rfl (own_bts HT13.out) rfl (by omega) hsz13 ?_
         intro A14 c14 w14 ho14 hg14 hc14
         have HW14 := Lib.hid (HW13.out.grown hg14 HW13.out.size (fun k hk => by rw [HG.out]; exact (HO13.out.lt k hk).1))
         have HO14 := Lib.hid ho14
         have hsz14 : W.heap.size + 1 ≤ w14.heap.size := Nat.le_trans hsz13 hg14.size
         clear ho14 hg14 HT13 HO13 HW13 hsz13 hc14)
      | (refine at_slot 51 ?_
         refine wpList_append_at N rfl (.tmp 49) (.tmp 50) _ rfl (W.heap.size + 1) 5 i0 Tryd.underlying26 hi0 hz0 hz1 hz2 _ 20 _ rfl HO14.out B A n c x rfl (HB.out.below (HW14.out.mono (by rw [HG.out]; have := HBG.out; omega))) HN.out (by omega) hsz14 ?_
         intro A15 c15 w15 ho15 hg15 hc15
         have HW15 := Lib.hid (HW14.out.grown hg15 HW14.out.size (fun k hk => by rw [HG.out]; exact (HO14.out.lt k hk).1))
         have HO15 := Lib.hid ho15
         clear ho15 hg15 HO14 HW14 hsz14))
    go_ret2
    exact ⟨A15, c15, by rw [HXN.out]; rfl, by rw [HXN.out]; exact rbuilt_bts HXN.out HL.out HN.out HCK.out HO15.out, by rw [HXN.out]; exact hc15, HW.out.trans (HW15.out.mono (by rw [HG.out]; omega))⟩

end Ip
end Go.Proofs.YtapcjjhbdhkhhaaDoor
