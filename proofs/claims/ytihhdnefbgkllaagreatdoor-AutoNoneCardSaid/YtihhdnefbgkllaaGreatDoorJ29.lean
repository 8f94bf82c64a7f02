/- Several texts of this proof in one file, each in its own namespace. -/
import Derived.Test.YtihhdnefbgkllaaGreatDoorJ27
import Derived.Test.YtihhdnefbgkllaaGreatDoorAutU
import Derived.Deep.RegionHeld3
import Derived.Deep.MidRow
/- Layer 18: the contract of Check. -/
set_option linter.unusedVariables false
set_option linter.unusedSimpArgs false
set_option maxRecDepth 100000
namespace Go.Proofs.YtihhdnefbgkllaaGreatDoor
open Go.ChangeShapes Go.WideShapes Go.ChangeAt Go.RowKit Go.Mtl Go.Lib
namespace Au
open AutM
open RulM (R)
open KeyM (isPow)

theorem count_ones (x : Int) (w : World) : Calls Tryz.prog 31 #[.int .u64 x] w fun e w' => e = .returned (.int .i64 (ones x)) ∧ w = w' := by
  have HO := Lib.hid (fun W => ones_any x W)
  generalize ones x = y at HO
  go_enter Tryz.func31, Tryz.ntmps31
  go_wp2_with (go_at_call 60; refine (HO.out _).mono ?_; rintro e w' ⟨rfl, rfl⟩)
  go_ret
  exact ⟨rfl, rfl⟩
/-- A config's cells. -/
abbrev cfc (z N : Int) (T : Nat → Int) : Array Value := #[.int .i64 z, .int .i64 N, .int .i64 (T 0), .int .i64 (T 1), .int .i64 (T 2), .int .i64 (T 3), .int .i64 (T 4), .int .i64 (T 5), .int .i64 (T 6), .int .i64 (T 7), .int .i64 (T 8), .int .i64 (T 9), .int .i64 (T 10), .int .i64 (T 11), .int .i64 (T 12), .int .i64 (T 13), .int .i64 (T 14), .int .i64 (T 15)]
/-- What is wrong with a config and rules. -/
def chkB (z N : Int) : Bool := isPow z && (decide (1 ≤ N) && decide (N ≤ 4095))
def chkE (z N : Int) (rs : List R) : Int := if chkB z N then fitE rs else 1
theorem pow_is {z : Int} (h1 : 1 ≤ z) (h2 : z ≤ 4096) : (ones z == 1) = isPow z := by
  have e : z = ((⟨z.toNat, by omega⟩ : Fin 4097).val : Int) := by simp; omega
  have h := ones_pow ⟨z.toNat, by omega⟩
  rwa [← e] at h
section
variable {w : World}
set_option maxHeartbeats 1000000 in
theorem check_p (z N : Int) (T : Nat → Int) (hz : -9223372036854775808 ≤ z ∧ z ≤ 9223372036854775807) (he : Env w) (A : Option Addr) (n c : Nat) (rs : List R) (hn : rs.length = n) (hr : Rds w w.heap.size (.slice A n c) rs) (ho : ∀ r ∈ rs, r.Ok) :
    Calls Tryz.prog 12 #[.agg (cfc z N T), .slice A n c] w fun e w' => e = .returned (.int .i64 (chkE z N rs)) ∧ Below w.heap.size w w' := by
  have HB := Lib.hid (below_box w (.cells (cfc z N T) 24))
  have HC : Hid (∀ W, Below w.heap.size w W → Calls Tryz.prog 32 #[.slice A n c] W fun e w' => e = .returned (.int .i64 (fitE rs)) ∧ Below W.heap.size W w') := fun W h =>
    check_any A n c rs W (he.below h) hn (hr.below h) ho
  have HX := Lib.hid (Blk.box w (cfc z N T) 24)
  have c0 := HX.out.cell 0 _ rfl
  have c1 := HX.out.cell 1 _ rfl
  obtain ⟨V, hV⟩ : ∃ V, V = chkE z N rs := ⟨_, rfl⟩
  rw [← hV]
  have HV := Lib.hid hV
  clear he hn hr ho hV
  by_cases h1 : 1 ≤ z
  · by_cases h2 : z ≤ 4096
    · have HP := Lib.hid (pow_is h1 h2)
      have HO := Lib.hid (fun W => count_ones z W)
      have hw : IntKind.u64.wrap z = z := by simp [IntKind.wrap, IntKind.bits, IntKind.signed]; omega
      generalize ones z = oz at HP HO
      cases hp : isPow z with
      | false =>
        have hv : V = 1 := by rw [HV.out]; unfold chkE chkB; rw [if_neg (by rw [hp]; simp)]
        have hq : (oz == 1) = false := HP.out.trans hp
        clear hp HV
        go_enter Tryz.func12, Tryz.ntmps12
        go_wp2_with fail
        go_at_call 31
        refine (HO.out _).mono ?_
        rintro e w1 ⟨rfl, rfl⟩
        go_wp2_with fail
        go_ret
        exact ⟨by rw [hv]; rfl, HB.out⟩
      | true =>
        have hq : (oz == 1) = true := HP.out.trans hp
        by_cases n1 : 1 ≤ N
        · by_cases n2 : N ≤ 4095
          · have hv : V = fitE rs := by rw [HV.out]; unfold chkE chkB; rw [if_pos (by rw [hp, decide_eq_true n1, decide_eq_true n2]; rfl)]
            have d1 : decide (N < 1) = false := decide_eq_false (by omega)
            have d2 : decide (4095 < N) = false := decide_eq_false (by omega)
            clear hp HV n1 n2
            generalize fitE rs = fe at HC hv
            subst hv
            go_enter Tryz.func12, Tryz.ntmps12
            go_wp2_with fail
            go_at_call 31
            refine (HO.out _).mono ?_
            rintro e w1 ⟨rfl, rfl⟩
            go_wp2_with fail
            go_at_call 32
            refine (HC.out _ HB.out).mono ?_
            rintro e w2 ⟨rfl, hb⟩
            have HB2 := Lib.hid (below_then HB.out hb)
            clear hb c0 c1
            go_wp2_with fail
            go_ret
            exact ⟨rfl, HB2.out⟩
          · have hv : V = 1 := by rw [HV.out]; unfold chkE chkB; rw [if_neg (by rw [decide_eq_false n2]; simp)]
            have d1 : decide (N < 1) = false := decide_eq_false (by omega)
            have d2 : decide (4095 < N) = true := decide_eq_true (by omega)
            clear hp HV n1 n2
            go_enter Tryz.func12, Tryz.ntmps12
            go_wp2_with fail
            go_at_call 31
            refine (HO.out _).mono ?_
            rintro e w1 ⟨rfl, rfl⟩
            go_wp2_with fail
            go_ret
            exact ⟨by rw [hv]; rfl, HB.out⟩
        · have hv : V = 1 := by rw [HV.out]; unfold chkE chkB; rw [if_neg (by rw [decide_eq_false n1]; simp)]
          have d1 : decide (N < 1) = true := decide_eq_true (by omega)
          clear hp HV n1
          go_enter Tryz.func12, Tryz.ntmps12
          go_wp2_with fail
          go_at_call 31
          refine (HO.out _).mono ?_
          rintro e w1 ⟨rfl, rfl⟩
          go_wp2_with fail
          go_ret
          exact ⟨by rw [hv]; rfl, HB.out⟩
    · have hv : V = 1 := by rw [HV.out]; unfold chkE chkB; rw [if_neg (by rw [KeyM.isPow_out (by omega)]; simp)]
      have d2 : decide (z ≤ 4096) = false := decide_eq_false h2
      clear HV h2
      go_enter Tryz.func12, Tryz.ntmps12
      go_wp2_with fail
      go_ret
      exact ⟨by rw [hv]; rfl, HB.out⟩
  · have hv : V = 1 := by rw [HV.out]; unfold chkE chkB; rw [if_neg (by rw [KeyM.isPow_out (by omega)]; simp)]
    have d1 : decide (1 ≤ z) = false := decide_eq_false h1
    clear HV h1
    go_enter Tryz.func12, Tryz.ntmps12
    go_wp2_with fail
    go_ret
    exact ⟨by rw [hv]; rfl, HB.out⟩
end
end Au
end Go.Proofs.YtihhdnefbgkllaaGreatDoor
/- Layer 18: the contract of New. (Written by wip/tools/mkAutZ.py.) -/
set_option linter.unusedVariables false
set_option linter.unusedSimpArgs false
set_option maxRecDepth 100000
namespace Go.Proofs.YtihhdnefbgkllaaGreatDoor
open Go.ChangeShapes Go.WideShapes Go.ChangeAt Go.RowKit Go.Mtl Go.Lib
namespace Au
open AutM
open RulM (R)

/-- A firewall that has just been made. -/
def newS (rs : List R) : St := { c := 0, g := 0, v := 0, rl := rs, fs := [], tl := fun _ => 0 }
theorem newS_inv {N : Int} {rs : List R} (h1 : 1 ≤ N) (h2 : N ≤ 4095) (ho : ∀ r ∈ rs, r.Ok) (hl : rs.length ≤ 64) : Inv N (newS rs) :=
  ⟨⟨by show (0 : Int) ≤ 0; omega, by show (0 : Int) < 1099511627776; omega, by show (0 : Int) ≤ 0; omega, by show (0 : Int) < 4096; omega, by show (0 : Int) ≤ 0; omega, by show (0 : Int) < 4096; omega⟩, rfl, by show (0 : Int) ≤ N; omega, h2, Oks.nil, ho, hl, fun _ => ⟨by show (0 : Int) ≤ 0; omega, by show (0 : Int) < 18446744073709551616; omega⟩⟩
theorem chk_ok {z N : Int} {rs : List R} (h : chkE z N rs = 0) : 1 ≤ N ∧ N ≤ 4095 ∧ fitE rs = 0 := by
  unfold chkE chkB at h
  split at h
  · rename_i hb
    simp only [Bool.and_eq_true, decide_eq_true_eq] at hb
    exact ⟨hb.2.1, hb.2.2, h⟩
  · cases h
theorem cfg_size (z N : Int) (T : Nat → Int) : (Tryz.prog.info? 24).map (·.size) = some (cfc z N T).size := (by kernel_rfl : (Tryz.prog.info? 24).map (·.size) = some 18)
theorem six_size (T : Nat → Int) : (Tryz.prog.info? 22).map (·.size) = some (sx T).toList.length := (by kernel_rfl : (Tryz.prog.info? 22).map (·.size) = some 16)
theorem cfg_range {w : World} {g : Nat} {z N : Int} {T : Nat → Int} {t : TypeId} (H : Blk w g (cfc z N T) t) : w.rangeAt g 2 (sx T).toList := by
  intro j v hv
  refine H.cell (2 + j) v ?_
  have hj : j < 16 := (List.getElem?_eq_some_iff.1 hv).1
  obtain rfl | rfl | rfl | rfl | rfl | rfl | rfl | rfl | rfl | rfl | rfl | rfl | rfl | rfl | rfl | rfl : j = 0 ∨ j = 1 ∨ j = 2 ∨ j = 3 ∨ j = 4 ∨ j = 5 ∨ j = 6 ∨ j = 7 ∨ j = 8 ∨ j = 9 ∨ j = 10 ∨ j = 11 ∨ j = 12 ∨ j = 13 ∨ j = 14 ∨ j = 15 := by omega
  all_goals exact hv
theorem take_sixteen {w : World} {g off : Nat} {T : Nat → Int} (h : w.rangeAt g off (sx T).toList) {ρ : Operand → Value} {o : Oper} (x : Operand) (ho : o.op = .load 22 x) (hx : ρ x = .pointer (some ⟨g, off, none⟩)) :
    (execOp ρ o).run Tryz.prog w = .ok (.value (.agg (sx T))) w := by
  unfold execOp
  simp only [ho, hx, Instr.loadAt, Instr.sureAddr, Sem.run_bind, Sem.run_pure, Result.andThen_ok, run_loadVar_mid w g off 22 (sx T).toList _ h Tryz.underlying22 rfl (six_size T)]
theorem _root_.Go.Mtl.Rds.lt_of {w : World} {B : Nat} {v : Value} {rs : List R} (h : Rds w B v rs) (hp : 0 < rs.length) (a : Addr) (n c : Nat) (e : v = .slice (some a) n c) : a.block < B := by
  obtain ⟨A', cap', e2, _, _, h4⟩ := h
  obtain ⟨b, off, e3, hb, _⟩ := h4 hp
  rw [e2] at e; injection e with e; rw [e3] at e; injection e with e; rw [← e]; exact hb
/-- What New has made. -/
theorem new_raw {w0 w : World} {M : Nat} {N : Int} {T : Nat → Int} {A : Option Addr} {c : Nat} {rs : List R} (hrd : Rds w w.heap.size (.slice A rs.length c) rs) (hnew : 0 < rs.length → ∀ a n' c', Value.slice A rs.length c = .slice (some a) n' c' → w0.heap.size ≤ a.block) (hm : MapAt w M []) (hM : w0.heap.size ≤ M)
    (he : Env w0) (hb : Below w0.heap.size w0 w) (hh : 0 < rs.length → ∀ a n' c', Value.slice A rs.length c = .slice (some a) n' c' → a.block ≠ M) (h1 : 1 ≤ N) (h2 : N ≤ 4095) (ho : ∀ r ∈ rs, r.Ok) (hl : rs.length ≤ 64) (htm : ∀ i, -9223372036854775808 ≤ T i ∧ T i ≤ 9223372036854775807) :
    PAt (w.alloc (.cells (acs N T 0 (.slice A rs.length c) (.map (some M)) (fun _ => 0)) 83)) (fun j => w0.heap.size ≤ j ∧ j < w.heap.size + 1) w.heap.size M N T (newS rs) := by
  have hlt := hm.lt
  have hsz := hb.size
  refine ⟨⟨.slice A rs.length c, ?_⟩, newS_inv h1 h2 ho hl, htm, h1⟩
  have e : GatM.gI (newS rs).c (newS rs).g (newS rs).v = 0 := by unfold GatM.gI newS; rfl
  rw [e]
  exact {
    blk := Blk.box _ _ _
    rds := hrd.below (below_box w _)
    own := fun hp a n' c' e => by
      have h3 := hnew hp a n' c' e
      obtain ⟨A', cap', e2, _, _, h4⟩ := hrd
      obtain ⟨b, off, e3, hb, _⟩ := h4 hp
      have e4 : a.block < w.heap.size := by
        rw [e2] at e; injection e with e; rw [e3] at e; injection e with e; rw [← e]; exact hb
      exact ⟨⟨h3, by omega⟩, by omega, hh hp a n' c' e⟩
    map := hm.keep (Below.heap_alloc _ _ _ hlt)
    ne := by omega
    ob := ⟨by omega, by omega⟩
    om := ⟨hM, by omega⟩
    lt := fun j hj => by simp only [World.size_alloc]; exact hj.2
    hi := fun j hj => he.new hj.1 }
set_option maxHeartbeats 2000000 in
theorem new_bad {w : World} (z N : Int) (T : Nat → Int) (hz : -9223372036854775808 ≤ z ∧ z ≤ 9223372036854775807) (htm : ∀ i, -9223372036854775808 ≤ T i ∧ T i ≤ 9223372036854775807) (he : Env w) (A : Option Addr) (n c : Nat) (rs : List R) (hn : rs.length = n) (hr : Rds w w.heap.size (.slice A n c) rs) (ho : ∀ r ∈ rs, r.Ok) (hm : n ≤ 100000) (h0 : chkE z N rs ≠ 0) :
    Calls Tryz.prog 8 #[.agg (cfc z N T), .slice A n c] w fun e w' => e = .returned (.tuple #[.pointer none, .int .i64 (chkE z N rs)]) ∧ Below w.heap.size w w' := by
  have HX := Lib.hid (Blk.box w (cfc z N T) 24)
  have HB := Lib.hid (below_box w (.cells (cfc z N T) 24))
  have HCH : Hid (∀ W, Below w.heap.size w W → Calls Tryz.prog 12 #[.agg (cfc z N T), .slice A n c] W fun e w' => e = .returned (.int .i64 (chkE z N rs)) ∧ Below W.heap.size W w') := fun W h =>
    check_p z N T hz (he.below h) A n c rs hn (hr.below h) ho
  generalize chkE z N rs = ce at *
  have d0 : (ce != 0) = true := by simpa using h0
  clear he hn hr ho hm hz htm h0
  go_enter Tryz.func8, Tryz.ntmps8
  go_wp2_with (refine wpList_load_row rfl 24 (.tmp 2) rfl w.heap.size rfl _ (cfc z N T) _ _ HX.out Tryz.underlying24 rfl (cfg_size z N T) ?_)
  go_at_call 12
  refine (HCH.out _ HB.out).mono ?_
  rintro e w1 ⟨rfl, hb⟩
  have HB1 := Lib.hid (below_then HB.out hb)
  clear hb
  go_wp2_with fail
  go_ret2
  exact ⟨rfl, HB1.out⟩
set_option maxHeartbeats 2000000 in
theorem new_ok {w : World} (z N : Int) (T : Nat → Int) (hz : -9223372036854775808 ≤ z ∧ z ≤ 9223372036854775807) (htm : ∀ i, -9223372036854775808 ≤ T i ∧ T i ≤ 9223372036854775807) (he : Env w) (A : Option Addr) (n c : Nat) (rs : List R) (hn : rs.length = n) (hr : Rds w w.heap.size (.slice A n c) rs) (ho : ∀ r ∈ rs, r.Ok) (hm : n ≤ 100000) (h0 : chkE z N rs = 0) :
    Calls Tryz.prog 8 #[.agg (cfc z N T), .slice A n c] w fun e w' => ∃ O B M, e = .returned (.tuple #[ptr B, .int .i64 0]) ∧ PAt w' O B M N T (newS rs) ∧ Below w.heap.size w w' ∧ ∀ j, O j → w.heap.size ≤ j := by
  have HX := Lib.hid (Blk.box w (cfc z N T) 24)
  have HB := Lib.hid (below_box w (.cells (cfc z N T) 24))
  have HCH : Hid (∀ W, Below w.heap.size w W → Calls Tryz.prog 12 #[.agg (cfc z N T), .slice A n c] W fun e w' => e = .returned (.int .i64 (chkE z N rs)) ∧ Below W.heap.size W w') := fun W h =>
    check_p z N T hz (he.below h) A n c rs hn (hr.below h) ho
  have HCL : Hid (∀ W, Below w.heap.size w W → Calls Tryz.prog 28 #[.slice A n c] W fun e w' => ∃ v, e = .returned v ∧ Rds w' w'.heap.size v rs ∧ (0 < rs.length → ∀ a n c, v = .slice (some a) n c → W.heap.size ≤ a.block) ∧ Below W.heap.size W w') := fun W h =>
    clone_any A n c rs W hn (hr.below h) hm
  obtain ⟨hN1, hN2, hfit⟩ := chk_ok h0
  have HE := Lib.hid he
  have HOK := Lib.hid ho
  have HTM := Lib.hid htm
  have HN1 := Lib.hid hN1
  have HN2 := Lib.hid hN2
  have HLN := Lib.hid (fit_len hfit)
  rw [h0] at HCH
  clear he hn hr ho hm hz htm h0 hN1 hN2 hfit
  go_enter Tryz.func8, Tryz.ntmps8
  go_wp2_with (refine wpList_load_row rfl 24 (.tmp 2) rfl w.heap.size rfl _ (cfc z N T) _ _ HX.out Tryz.underlying24 rfl (cfg_size z N T) ?_)
  go_at_call 12
  refine (HCH.out _ HB.out).mono ?_
  rintro e W1 ⟨rfl, hb⟩
  have HS1 := Lib.hid (below_then HB.out hb)
  have HX1 := Lib.hid (HX.out.next hb)
  clear hb HX HB
  go_wp2_with fail
  refine wp_region_held_drew (S := fun w' => Blk w' w.heap.size (cfc z N T) 24 ∧ Below w.heap.size w w') (by kernel_rfl) (⟨HX1.out.drew, HS1.out.drew⟩) (fun hH => ?_)
  refine wpAnyH_take (i := 0) (oi := ⟨some 14, _, _, _, _, _⟩) (v := ?v1) rfl (by kernel_rfl) (by kernel_rfl) (by kernel_rfl) (fun _ _ _ h => h) (Or.inl ⟨rfl, ?c1⟩) hH ?r1
  case c1 => (intro w' _; go_simp; (try with_reducible rfl))
  try simp only [Act.put, List.setIfInBounds_toArray, List.set_cons_zero, List.set_cons_succ]
  refine wpAnyH_take (i := 1) (oi := ⟨some 15, _, _, _, _, _⟩) (v := ?v2) rfl (by kernel_rfl) (by kernel_rfl) (by kernel_rfl) (fun _ _ _ h => h) (Or.inl ⟨rfl, ?c2⟩) hH ?r2
  case c2 => (intro w' hS; have c1 := hS.1.cell 1 (.int .i64 N) rfl; go_simp; (try with_reducible rfl))
  try simp only [Act.put, List.setIfInBounds_toArray, List.set_cons_zero, List.set_cons_succ]
  refine wpAnyH_take (i := 2) (oi := ⟨some 16, _, _, _, _, _⟩) (v := ?v3) rfl (by kernel_rfl) (by kernel_rfl) (by kernel_rfl) (fun _ _ _ h => h) (Or.inl ⟨rfl, ?c3⟩) hH ?r3
  case c3 => (intro w' _; go_simp; (try with_reducible rfl))
  try simp only [Act.put, List.setIfInBounds_toArray, List.set_cons_zero, List.set_cons_succ]
  refine wpAnyH_take (i := 3) (oi := ⟨some 17, _, _, _, _, _⟩) (v := ?v4) rfl (by kernel_rfl) (by kernel_rfl) (by kernel_rfl) (fun _ _ _ h => h) (Or.inl ⟨rfl, ?c4⟩) hH ?r4
  case c4 => (intro w' hS; refine take_sixteen (cfg_range hS.1) (.tmp 16) ?_ ?_ <;> rfl)
  try simp only [Act.put, List.setIfInBounds_toArray, List.set_cons_zero, List.set_cons_succ]
  refine wpAnyH_take (i := 5) (oi := ⟨some 19, _, _, _, _, _⟩) (v := ?v5) rfl (by kernel_rfl) (by kernel_rfl) (by kernel_rfl) (fun _ _ _ h => h) (Or.inl ⟨rfl, ?c5⟩) hH ?r5
  case c5 => (intro w' _; go_simp; (try with_reducible rfl))
  try simp only [Act.put, List.setIfInBounds_toArray, List.set_cons_zero, List.set_cons_succ]
  refine wpAnyH_ready (rs := [4, 6]) (by kernel_rfl) (by simp) (AllReadyH.cons rfl (fun K hK => ?_) (AllReadyH.cons rfl (fun K hK => ?_) (AllReadyH.nil)))
  · go_simp
    have HM := Lib.hid (MapAt.new W1.drew)
    refine hK.out _ _ (⟨hH.1.alloc _, hH.2.trans ((below_box W1.drew _).mono hH.2.size)⟩) (fun hH => ?_)
    clear hK K
    try simp only [Act.put, List.setIfInBounds_toArray, List.set_cons_zero, List.set_cons_succ]
    refine wpAnyH_ready (rs := [6]) (by kernel_rfl) (by simp) (AllReadyH.cons rfl (fun K hK => ?_) (AllReadyH.nil))
    go_simp
    go_at_call 28
    refine (HCL.out _ hH.2).mono ?_
    rintro e w6 ⟨v, rfl, hrd, hnew, hbp⟩
    obtain ⟨A', c', rfl, -, -⟩ := hrd.len
    have HRD := Lib.hid hrd
    have HNEW := Lib.hid (fun h a n c e => Nat.le_trans hH.2.size (hnew h a n c e))
    have HML := Lib.hid (HM.out.keep (hbp.block _ HM.out.lt))
    have HMZ := Lib.hid HS1.out.drew.size
    have HNE := Lib.hid (fun h a n c e => Nat.ne_of_gt (Nat.lt_of_lt_of_le HM.out.lt (hnew h a n c e)))
    refine hK.out _ _ (⟨hH.1.next hbp, hH.2.trans (hbp.mono hH.2.size)⟩) (fun hH => ?_)
    clear hK K
    clear hbp hrd hnew HM
    try simp only [Act.put, List.setIfInBounds_toArray, List.set_cons_zero, List.set_cons_succ]
    refine wpAnyH_take (i := 7) (oi := ⟨some 21, _, _, _, _, _⟩) (v := ?v6) rfl (by kernel_rfl) (by kernel_rfl) (by kernel_rfl) (fun _ _ _ h => h) (Or.inl ⟨rfl, ?c6⟩) hH ?r6
    case c6 => (intro w' _; go_simp; (try with_reducible rfl))
    try simp only [Act.put, List.setIfInBounds_toArray, List.set_cons_zero, List.set_cons_succ]
    refine wpAnyH_ready (rs := [8]) (by kernel_rfl) (by simp) (AllReadyH.cons rfl (fun K hK => ?_) (AllReadyH.nil))
    have HB8 := Lib.hid hH.2
    go_simp
    refine hK.out _ _ (⟨hH.1.alloc _, hH.2.trans ((below_box _ _).mono hH.2.size)⟩) (fun hH => ?_)
    clear hK K
    try simp only [Act.put, List.setIfInBounds_toArray, List.set_cons_zero, List.set_cons_succ]
    refine wpAnyH_take (i := 9) (oi := ⟨some 7, _, _, _, _, _⟩) (v := ?v7) rfl (by kernel_rfl) (by kernel_rfl) (by kernel_rfl) (fun _ _ _ h => h) (Or.inl ⟨rfl, ?c7⟩) hH ?r7
    case c7 => (intro w' _; go_simp; (try with_reducible rfl))
    try simp only [Act.put, List.setIfInBounds_toArray, List.set_cons_zero, List.set_cons_succ]
    refine wpAnyH_done (by kernel_rfl) ?_ _
    have HB9 := Lib.hid hH.2
    clear hH
    go_wp2_with fail
    go_ret2
    have HP := new_raw HRD.out HNEW.out HML.out HMZ.out HE.out HB8.out HNE.out HN1.out HN2.out HOK.out HLN.out HTM.out
    try simp only [World.size_alloc] at HP
    exact ⟨_, _, _, rfl, HP, HB9.out, fun j hj => And.left hj⟩
  · go_simp
    go_at_call 28
    refine (HCL.out _ hH.2).mono ?_
    rintro e w6 ⟨v, rfl, hrd, hnew, hbp⟩
    obtain ⟨A', c', rfl, -, -⟩ := hrd.len
    have HRD := Lib.hid hrd
    have HNEW := Lib.hid (fun h a n c e => Nat.le_trans hH.2.size (hnew h a n c e))
    
    refine hK.out _ _ (⟨hH.1.next hbp, hH.2.trans (hbp.mono hH.2.size)⟩) (fun hH => ?_)
    clear hK K
    clear hbp hrd hnew
    try simp only [Act.put, List.setIfInBounds_toArray, List.set_cons_zero, List.set_cons_succ]
    refine wpAnyH_ready (rs := [4]) (by kernel_rfl) (by simp) (AllReadyH.cons rfl (fun K hK => ?_) (AllReadyH.nil))
    go_simp
    have HML := Lib.hid (MapAt.new w6)
    have HNE := Lib.hid (fun h a n c e => Nat.ne_of_lt (HRD.out.lt_of h a n c e))
    replace HRD := Lib.hid (HRD.out.below (below_box w6 (.map #[] 0)))
    have HMZ := Lib.hid hH.2.size
    refine hK.out _ _ (⟨hH.1.alloc _, hH.2.trans ((below_box w6 _).mono hH.2.size)⟩) (fun hH => ?_)
    clear hK K
    try simp only [Act.put, List.setIfInBounds_toArray, List.set_cons_zero, List.set_cons_succ]
    refine wpAnyH_take (i := 7) (oi := ⟨some 21, _, _, _, _, _⟩) (v := ?v8) rfl (by kernel_rfl) (by kernel_rfl) (by kernel_rfl) (fun _ _ _ h => h) (Or.inl ⟨rfl, ?c8⟩) hH ?r8
    case c8 => (intro w' _; go_simp; (try with_reducible rfl))
    try simp only [Act.put, List.setIfInBounds_toArray, List.set_cons_zero, List.set_cons_succ]
    refine wpAnyH_ready (rs := [8]) (by kernel_rfl) (by simp) (AllReadyH.cons rfl (fun K hK => ?_) (AllReadyH.nil))
    have HB8 := Lib.hid hH.2
    go_simp
    refine hK.out _ _ (⟨hH.1.alloc _, hH.2.trans ((below_box _ _).mono hH.2.size)⟩) (fun hH => ?_)
    clear hK K
    try simp only [Act.put, List.setIfInBounds_toArray, List.set_cons_zero, List.set_cons_succ]
    refine wpAnyH_take (i := 9) (oi := ⟨some 7, _, _, _, _, _⟩) (v := ?v9) rfl (by kernel_rfl) (by kernel_rfl) (by kernel_rfl) (fun _ _ _ h => h) (Or.inl ⟨rfl, ?c9⟩) hH ?r9
    case c9 => (intro w' _; go_simp; (try with_reducible rfl))
    try simp only [Act.put, List.setIfInBounds_toArray, List.set_cons_zero, List.set_cons_succ]
    refine wpAnyH_done (by kernel_rfl) ?_ _
    have HB9 := Lib.hid hH.2
    clear hH
    go_wp2_with fail
    go_ret2
    have HP := new_raw HRD.out HNEW.out HML.out HMZ.out HE.out HB8.out HNE.out HN1.out HN2.out HOK.out HLN.out HTM.out
    try simp only [World.size_alloc] at HP
    exact ⟨_, _, _, rfl, HP, HB9.out, fun j hj => And.left hj⟩
end Au
end Go.Proofs.YtihhdnefbgkllaaGreatDoor
/- Layer 18: what awake does, in the plain machine: New, five Acts, a Tick, a Count. -/
set_option linter.unusedVariables false
set_option linter.unusedSimpArgs false
set_option maxRecDepth 100000
namespace Go.Proofs.YtihhdnefbgkllaaGreatDoor
open Go.ChangeShapes Go.WideShapes Go.ChangeAt Go.RowKit Go.Mtl Go.Lib
namespace Au
open AutM
open RulM (R)
open MatM (K fst accB idxI)

def r1 : R := ⟨true, 0, 0, 0, 0, 0, 0, 65535, 0, 65535⟩
def p1 : K := ⟨6, 1, 2, 3, 4, 2, 0⟩
def q1 : K := ⟨6, 2, 1, 4, 3, 18, 0⟩
def u1 : K := ⟨17, 0, 0, 0, 0, 0, 0⟩
def T1 (i : Nat) : Int := if i = 1 ∨ i = 2 then 5 else 0
theorem r1_ok : ∀ r ∈ [r1], r.Ok := by
  intro r hr
  rw [List.mem_singleton.1 hr]
  exact ⟨by decide, by decide, by decide, by decide, by decide, by decide, by decide, by decide, by decide⟩
theorem p1_ok : p1.Ok := ⟨by decide, by decide, by decide, by decide, by decide, by decide, by decide⟩
theorem q1_ok : q1.Ok := ⟨by decide, by decide, by decide, by decide, by decide, by decide, by decide⟩
theorem u1_ok : u1.Ok := ⟨by decide, by decide, by decide, by decide, by decide, by decide, by decide⟩
theorem T1_in (i : Nat) : -9223372036854775808 ≤ T1 i ∧ T1 i ≤ 9223372036854775807 := by unfold T1; split <;> omega
theorem chk_1 : chkE 1 1 [r1] = 0 := by decide +kernel
def s0 : St := newS [r1]
def s1 : St := actS 1 T1 s0 q1
def s2 : St := actS 1 T1 s1 p1
def s3 : St := actS 1 T1 s2 q1
def s4 : St := actS 1 T1 s3 u1
def s5 : St := { s4 with c := Ga.later s4.c 5 }
def s6 : St := actS 1 T1 s5 q1
def s7 : St := countS s6 3
theorem v1 : actV 1 s0 q1 = 4 := by decide +kernel
theorem v2 : actV 1 s1 p1 = 1 := by decide +kernel
theorem v3 : actV 1 s2 q1 = 1 := by decide +kernel
theorem v4 : actV 1 s3 u1 = 5 := by decide +kernel
theorem v5 : actV 1 s5 q1 = 4 := by decide +kernel
theorem v6 : statV s7 3 = 1 := by decide +kernel
theorem v7 : s7.fs.length = 0 := by decide +kernel
theorem v8 : s7.v = 0 ∧ s7.g = 0 ∧ s7.c = 5 := by decide +kernel
end Au
end Go.Proofs.YtihhdnefbgkllaaGreatDoor
