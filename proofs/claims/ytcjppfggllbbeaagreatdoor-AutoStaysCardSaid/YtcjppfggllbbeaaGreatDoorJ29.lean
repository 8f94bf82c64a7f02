/- Several texts of this proof in one file, each in its own namespace. -/
import Derived.Test.YtcjppfggllbbeaaGreatDoorJ27
import Derived.Test.YtcjppfggllbbeaaGreatDoorAutU
import Derived.Deep.RegionHeld3
import Derived.Deep.MidRow
/- Layer 18: the contract of Check. -/
set_option linter.unusedVariables false
set_option linter.unusedSimpArgs false
set_option maxRecDepth 100000
namespace Go.Proofs.YtcjppfggllbbeaaGreatDoor
open Go.ChangeShapes Go.WideShapes Go.ChangeAt Go.RowKit Go.Mtl Go.Lib
namespace Au
open AutM
open RulM (R)
open KeyM (isPow)

theorem count_ones (x : Int) (w : World) : Calls Tryz.prog 31 #[.int .u64 x] w fun e w' => e = .returned (.int .i64 (ones x)) ∧ w = w' := by
  have HO := Lib.hid (fun W => ones_any x W)
  generalize ones x = y at HO
  go_enter Tryz.func31, Tryz.ntmps31
  go_wp2_with (go_at_call 60; refine (HO.out _).mono ?_; rintro e w' ⟨rfl, rfl⟩)
  go_ret
  exact ⟨rfl, rfl⟩
/-- A config's cells. -/
abbrev cfc (z N : Int) (T : Nat → Int) : Array Value := #[.int .i64 z, .int .i64 N, .int .i64 (T 0), .int .i64 (T 1), .int .i64 (T 2), .int .i64 (T 3), .int .i64 (T 4), .int .i64 (T 5), .int .i64 (T 6), .int .i64 (T 7), .int .i64 (T 8), .int .i64 (T 9), .int .i64 (T 10), .int .i64 (T 11), .int .i64 (T 12), .int .i64 (T 13), .int .i64 (T 14), .int .i64 (T 15)]
/-- What is wrong with a config and rules. -/
def chkB (z N : Int) : Bool := isPow z && (decide (1 ≤ N) && decide (N ≤ 4095))
def chkE (z N : Int) (rs : List R) : Int := if chkB z N then fitE rs else 1
theorem pow_is {z : Int} (h1 : 1 ≤ z) (h2 : z ≤ 4096) : (ones z == 1) = isPow z := by
  have e : z = ((⟨z.toNat, by omega⟩ : Fin 4097).val : Int) := by simp; omega
  have h := ones_pow ⟨z.toNat, by omega⟩
  rwa [← e] at h
section
variable {w : World}
set_option maxHeartbeats 1000000 in
theorem check_p (z N : Int) (T : Nat → Int) (hz : -9223372036854775808 ≤ z ∧ z ≤ 9223372036854775807) (he : Env w) (A : Option Addr) (n c : Nat) (rs : List R) (hn : rs.length = n) (hr : Rds w w.heap.size (.slice A n c) rs) (ho : ∀ r ∈ rs, r.Ok) :
    Calls Tryz.prog 12 #[.agg (cfc z N T), .slice A n c] w fun e w' => e = .returned (.int .i64 (chkE z N rs)) ∧ Below w.heap.size w w' := by
  have HB := Lib.hid (below_box w (.cells (cfc z N T) 24))
  have HC : Hid (∀ W, Below w.heap.size w W → Calls Tryz.prog 32 #[.slice A n c] W fun e w' => e = .returned (.int .i64 (fitE rs)) ∧ Below W.heap.size W w') := fun W h =>
    check_any A n c rs W (he.below h) hn (hr.below h) ho
  have HX := Lib.hid (Blk.box w (cfc z N T) 24)
  have c0 := HX.out.cell 0 _ rfl
  have c1 := HX.out.cell 1 _ rfl
  obtain ⟨V, hV⟩ : ∃ V, V = chkE z N rs := ⟨_, rfl⟩
  rw [← hV]
  have HV := Lib.hid hV
  clear he hn hr ho hV
  by_cases h1 : 1 ≤ z
  · by_cases h2 : z ≤ 4096
    · have HP := Lib.hid (pow_is h1 h2)
      have HO := Lib.hid (fun W => count_ones z W)
      have hw : IntKind.u64.wrap z = z := by simp [IntKind.wrap, IntKind.bits, IntKind.signed]; omega
      generalize ones z = oz at HP HO
      cases hp : isPow z with
      | false =>
        have hv : V = 1 := by rw [HV.out]; unfold chkE chkB; rw [if_neg (by rw [hp]; simp)]
        have hq : (oz == 1) = false := HP.out.trans hp
        clear hp HV
        go_enter Tryz.func12, Tryz.ntmps12
        go_wp2_with fail
        go_at_call 31
        refine (HO.out _).mono ?_
        rintro e w1 ⟨rfl, rfl⟩
        go_wp2_with fail
        go_ret
        exact ⟨by rw [hv]; rfl, HB.out⟩
      | true =>
        have hq : (oz == 1) = true := HP.out.trans hp
        by_cases n1 : 1 ≤ N
        · by_cases n2 : N ≤ 4095
          · have hv : V = fitE rs := by rw [HV.out]; unfold chkE chkB; rw [if_pos (by rw [hp, decide_eq_true n1, decide_eq_true n2]; rfl)]
            have d1 : decide (N < 1) = false := decide_eq_false (by omega)
            have d2 : decide (4095 < N) = false := decide_eq_false (by omega)
            clear hp HV n1 n2
            generalize fitE rs = fe at HC hv
            subst hv
            go_enter Tryz.func12, Tryz.ntmps12
            go_wp2_with fail
            go_at_call 31
            refine (HO.out _).mono ?_
            rintro e w1 ⟨rfl, rfl⟩
            go_wp2_with fail
            go_at_call 32
            refine (HC.out _ HB.out).mono ?_
            rintro e w2 ⟨rfl, hb⟩
            have HB2 := Lib.hid (below_then HB.out hb)
            clear hb c0 c1
            go_wp2_with fail
            go_ret
            exact ⟨rfl, HB2.out⟩
          · have hv : V = 1 := by rw [HV.out]; unfold chkE chkB; rw [if_neg (by rw [decide_eq_false n2]; simp)]
            have d1 : decide (N < 1) = false := decide_eq_false (by omega)
            have d2 : decide (4095 < N) = true := decide_eq_true (by omega)
            clear hp HV n1 n2
            go_enter Tryz.func12, Tryz.ntmps12
            go_wp2_with fail
            go_at_call 31
            refine (HO.out _).mono ?_
            rintro e w1 ⟨rfl, rfl⟩
            go_wp2_with fail
            go_ret
            exact ⟨by rw [hv]; rfl, HB.out⟩
        · have hv : V = 1 := by rw [HV.out]; unfold chkE chkB; rw [if_neg (by rw [decide_eq_false n1]; simp)]
          have d1 : decide (N < 1) = true := decide_eq_true (by omega)
          clear hp HV n1
          go_enter Tryz.func12, Tryz.ntmps12
          go_wp2_with fail
          go_at_call 31
          refine (HO.out _).mono ?_
          rintro e w1 ⟨rfl, rfl⟩
          go_wp2_with fail
          go_ret
          exact ⟨by rw [hv]; rfl, HB.out⟩
    · have hv : V = 1 := by rw [HV.out]; unfold chkE chkB; rw [if_neg (by rw [KeyM.isPow_out (by omega)]; simp)]
      have d2 : decide (z ≤ 4096) = false := decide_eq_false h2
      clear HV h2
      go_enter Tryz.func12, Tryz.ntmps12
      go_wp2_with fail
      go_ret
      exact ⟨by rw [hv]; rfl, HB.out⟩
  · have hv : V = 1 := by rw [HV.out]; unfold chkE chkB; rw [if_neg (by rw [KeyM.isPow_out (by omega)]; simp)]
    have d1 : decide (1 ≤ z) = false := decide_eq_false h1
    clear HV h1
    go_enter Tryz.func12, Tryz.ntmps12
    go_wp2_with fail
    go_ret
    exact ⟨by rw [hv]; rfl, HB.out⟩
end
end Au
end Go.Proofs.YtcjppfggllbbeaaGreatDoor
/- Layer 18: the contract of New. (Written by wip/tools/mkAutZ.py.) -/
set_option linter.unusedVariables false
set_option linter.unusedSimpArgs false
set_option maxRecDepth 100000
namespace Go.Proofs.YtcjppfggllbbeaaGreatDoor
open Go.ChangeShapes Go.WideShapes Go.ChangeAt Go.RowKit Go.Mtl Go.Lib
namespace Au
open AutM
open RulM (R)

/-- A firewall that has just been made. -/
def newS (rs : List R) : St := { c := 0, g := 0, v := 0, rl := rs, fs := [], tl := fun _ => 0 }
theorem newS_inv {N : Int} {rs : List R} (h1 : 1 ≤ N) (h2 : N ≤ 4095) (ho : ∀ r ∈ rs, r.Ok) (hl : rs.length ≤ 64) : Inv N (newS rs) :=
  ⟨⟨by show (0 : Int) ≤ 0; omega, by show (0 : Int) < 1099511627776; omega, by show (0 : Int) ≤ 0; omega, by show (0 : Int) < 4096; omega, by show (0 : Int) ≤ 0; omega, by show (0 : Int) < 4096; omega⟩, rfl, by show (0 : Int) ≤ N; omega, h2, Oks.nil, ho, hl, fun _ => ⟨by show (0 : Int) ≤ 0; omega, by show (0 : Int) < 18446744073709551616; omega⟩⟩
theorem chk_ok {z N : Int} {rs : List R} (h : chkE z N rs = 0) : 1 ≤ N ∧ N ≤ 4095 ∧ fitE rs = 0 := by
  unfold chkE chkB at h
  split at h
  · rename_i hb
    simp only [Bool.and_eq_true, decide_eq_true_eq] at hb
    exact ⟨hb.2.1, hb.2.2, h⟩
  · cases h
theorem cfg_size (z N : Int) (T : Nat → Int) : (Tryz.prog.info? 24).map (·.size) = some (cfc z N T).size := (by kernel_rfl : (Tryz.prog.info? 24).map (·.size) = some 18)
theorem six_size (T : Nat → Int) : (Tryz.prog.info? 22).map (·.size) = some (sx T).toList.length := (by kernel_rfl : (Tryz.prog.info? 22).map (·.size) = some 16)
theorem cfg_range {w : World} {g : Nat} {z N : Int} {T : Nat → Int} {t : TypeId} (H : Blk w g (cfc z N T) t) : w.rangeAt g 2 (sx T).toList := by
  intro j v hv
  refine H.cell (2 + j) v ?_
  have hj : j < 16 := (List.getElem?_eq_some_iff.1 hv).1
  obtain rfl | rfl | rfl | rfl | rfl | rfl | rfl | rfl | rfl | rfl | rfl | rfl | rfl | rfl | rfl | rfl : j = 0 ∨ j = 1 ∨ j = 2 ∨ j = 3 ∨ j = 4 ∨ j = 5 ∨ j = 6 ∨ j = 7 ∨ j = 8 ∨ j = 9 ∨ j = 10 ∨ j = 11 ∨ j = 12 ∨ j = 13 ∨ j = 14 ∨ j = 15 := by omega
  all_goals exact hv
theorem take_sixteen {w : World} {g off : Nat} {T : Nat → Int} (h : w.rangeAt g off (sx T).toList) {ρ : Operand → Value} {o : Oper} (x : Operand) (ho : o.op = .load 22 x) (hx : ρ x = .pointer (some ⟨g, off, none⟩)) :
    (execOp ρ o).run Tryz.prog w = .ok (.value (.agg (sx T))) w := by
  unfold execOp
  simp only [ho, hx, Instr.loadAt, Instr.sureAddr, Sem.run_bind, Sem.run_pure, Result.andThen_ok, run_loadVar_mid w g off 22 (sx T).toList _ h Tryz.underlying22 rfl (six_size T)]
theorem _root_.Go.Mtl.Rds.lt_of {w : World} {B : Nat} {v : Value} {rs : List R} (h : Rds w B v rs) (hp : 0 < rs.length) (a : Addr) (n c : Nat) (e : v = .slice (some a) n c) : a.block < B := by
  obtain ⟨A', cap', e2, _, _, h4⟩ := h
  obtain ⟨b, off, e3, hb, _⟩ := h4 hp
  rw [e2] at e; injection e with e; rw [e3] at e; injection e with e; rw [← e]; exact hb
/-- What New has made. -/
theorem new_raw {w0 w : World} {M : Nat} {N : Int} {T : Nat → Int} {A : Option Addr} {c : Nat} {rs : List R} (hrd : Rds w w.heap.size (.slice A rs.length c) rs) (hnew : 0 < rs.length → ∀ a n' c', Value.slice A rs.length c = .slice (some a) n' c' → w0.heap.size ≤ a.block) (hm : MapAt w M []) (hM : w0.heap.size ≤ M)
    (he : Env w0) (hb : Below w0.heap.size w0 w) (hh : 0 < rs.length → ∀ a n' c', Value.slice A rs.length c = .slice (some a) n' c' → a.block ≠ M) (h1 : 1 ≤ N) (h2 : N ≤ 4095) (ho : ∀ r ∈ rs, r.Ok) (hl : rs.length ≤ 64) (htm : ∀ i, -9223372036854775808 ≤ T i ∧ T i ≤ 9223372036854775807) :
    PAt (w.alloc (.cells (acs N T 0 (.slice A rs.length c) (.map (some M)) (fun _ => 0)) 83)) (fun j => w0.heap.size ≤ j ∧ j < w.heap.size + 1) w.heap.size M N T (newS rs) := by
  have hlt := hm.lt
  have hsz := hb.size
  refine ⟨⟨.slice A rs.length c, ?_⟩, newS_inv h1 h2 ho hl, htm, h1⟩
  have e : GatM.gI (newS rs).c (newS rs).g (newS rs).v = 0 := by unfold GatM.gI newS; rfl
  rw [e]
  exact {
    blk := Blk.box _ _ _
    rds := hrd.below (below_box w _)
    own := fun hp a n' c' e => by
      have h3 := hnew hp a n' c' e
      obtain ⟨A', cap', e2, _, _, h4⟩ := hrd
      obtain ⟨b, off, e3, hb, _⟩ := h4 hp
      have e4 : a.block < w.heap.size := by
        rw [e2] at e; injection e with e; rw [e3] at e; injection e with e; rw [← e]; exact hb
      exact ⟨⟨h3, by omega⟩, by omega, hh hp a n' c' e⟩
    map := hm.keep (Below.heap_alloc _ _ _ hlt)
    ne := by omega
    ob := ⟨by omega, by omega⟩
    om := ⟨hM, by omega⟩
    lt := fun j hj => by simp only [World.size_alloc]; exact hj.2
    hi := fun j hj => he.new hj.1 }
set_option maxHeartbeats 2000000 in
theorem new_bad {w : World} (z N : Int) (T : Nat → Int) (hz : -9223372036854775808 ≤ z ∧ z ≤ 9223372036854775807) (htm : ∀ i, -9223372036854775808 ≤ T i ∧ T i ≤ 9223372036854775807) (he : Env w) (A : Option Addr) (n c : Nat) (rs : List R) (hn : rs.length = n) (hr : Rds w w.heap.size (.slice A n c) rs) (ho : ∀ r ∈ rs, r.Ok) (hm : n ≤ 100000) (h0 : chkE z N rs ≠ 0) :
    Calls Tryz.prog 8 #[.agg (cfc z N T), .slice A n c] w fun e w' => e = .returned (.tuple #[.pointer none, .int .i64 (chkE z N rs)]) ∧ Below w.heap.size w w' := by
  have HX := Lib.hid (Blk.box w (cfc z N T) 24)
  have HB := Lib.hid (below_box w (.cells (cfc z N T) 24))
  have HCH : Hid (∀ W, Below w.heap.size w W → Calls Tryz.prog 12 #[.agg (cfc z N T), .slice A n c] W fun e w' => e = .returned (.int .i64 (chkE z N rs)) ∧ Below W.heap.size W w') := fun W h =>
    check_p z N T hz (he.below h) A n c rs hn (hr.below h) ho
  generalize chkE z N rs = ce at *
  have d0 : (ce != 0) = true := by simpa using h0
  clear he hn hr ho hm hz htm h0
  go_enter Tryz.func8, Tryz.ntmps8
  go_wp2_with (refine wpList_load_row rfl 24 (.tmp 2) rfl w.heap.size rfl _ (cfc z N T) _ _ HX.out Tryz.underlying24 rfl (cfg_size z N T) ?_)
  go_at_call 12
  refine (HCH.out _ HB.out).mono ?_
  rintro e w1 ⟨rfl, hb⟩
  have HB1 := Lib.hid (below_then HB.out hb)
  clear hb
  go_wp2_with fail
  go_ret2
  exact ⟨rfl, HB1.out⟩
set_option maxHeartbeats 2000000 in
theorem new_ok {w : World} (z N : Int) (T : Nat → Int) (hz : -9223372036854775808 ≤ z ∧ z ≤ 9223372036854775807) (htm : ∀ i, -9223372036854775808 ≤ T i ∧ T i ≤ 9223372036854775807) (he : Env w) (A : Option Addr) (n c : Nat) (rs : List R) (hn : rs.length = n) (hr : Rds w w.heap.size (.slice A n c) rs) (ho : ∀ r ∈ rs, r.Ok) (hm : n ≤ 100000) (h0 : chkE z N rs = 0) :
    Calls Tryz.prog 8 #[.agg (cfc z N T), .slice A n c] w fun e w' => ∃ O B M, e = .returned (.tuple #[ptr B, .int .i64 0]) ∧ PAt w' O B M N T (newS rs) ∧ Below w.heap.size w w' ∧ ∀ j, O j → w.heap.size ≤ j := by
  have HX := Lib.hid (Blk.box w (cfc z N T) 24)
  have HB := Lib.hid (below_box w (.cells (cfc z N T) 24))
  have HCH : Hid (∀ W, Below w.heap.size w W → Calls Tryz.prog 12 #[.agg (cfc z N T), .slice A n c] W fun e w' => e = .returned (.int .i64 (chkE z N rs)) ∧ Below W.heap.size W w') := fun W h =>
    check_p z N T hz (he.below h) A n c rs hn (hr.below h) ho
  have HCL : Hid (∀ W, Below w.heap.size w W → Calls Tryz.prog 28 #[.slice A n c] W fun e w' => ∃ v, e = .returned v ∧ Rds w' w'.heap.size v rs ∧ (0 < rs.length → ∀ a n c, v = .slice (some a) n c → W.heap.size ≤ a.block) ∧ Below W.heap.size W w') := fun W h =>
    clone_any A n c rs W hn (hr.below h) hm
  obtain ⟨hN1, hN2, hfit⟩ := chk_ok h0
  have HE := Lib.hid he
  have HOK := Lib.hid ho
  have HTM := Lib.hid htm
  have HN1 := Lib.hid hN1
  have HN2 := Lib.hid hN2
  have HLN := Lib.hid (fit_len hfit)
  rw [h0] at HCH
  clear he hn hr ho hm hz htm h0 hN1 hN2 hfit
  go_enter Tryz.func8, Tryz.ntmps8
  go_wp2_with (refine wpList_load_row rfl 24 (.tmp 2) rfl w.heap.size rfl _ (cfc z N T) _ _ HX.out Tryz.underlying24 rfl (cfg_size z N T) ?_)
  go_at_call 12
  refine (HCH.out _ HB.out).mono ?_
  rintro e W1 ⟨rfl, hb⟩
  have HS1 := Lib.hid (below_then HB.out hb)
  have HX1 := Lib.hid (HX.out.next hb)
  clear hb HX HB
  go_wp2_with fail
  refine wp_region_held_drew (S := fun w' => Blk w' w.heap.size (cfc z N T) 24 ∧ Below w.heap.size w w') (by kernel_rfl) (⟨HX1.out.drew, HS1.out.drew⟩) (fun hH => ?_)
  refine wpAnyH_take (i := 0) (oi := ⟨some 14, _, _, _, _, _⟩) (v := ?v1) rfl (by kernel_rfl) (by kernel_rfl) (by kernel_rfl) (fun _ _ _ h => h) (Or.inl ⟨rfl, ?c1⟩) hH ?r1
  case c1 => (intro w' _; go_simp; (try with_reducible rfl))
  try simp only [Act.put, List.setIfInBounds_toArray, List.set_cons_zero, List.set_cons_succ]
  refine wpAnyH_take (i := 1) (oi := ⟨some 15, _, _, _, _, _⟩) (v := ?v2) rfl (by kernel_rfl) (by kernel_rfl) (by kernel_rfl) (fun _ _ _ h => h) (Or.inl ⟨rfl, ?c2⟩) hH ?r2
  case c2 => (intro w' hS; have c1 := hS.1.cell 1 (.int .i64 N) rfl; go_simp; (try with_reducible rfl))
  try simp only [Act.put, List.setIfInBounds_toArray, List.set_cons_zero, List.set_cons_succ]
  refine wpAnyH_take (i := 2) (oi := ⟨some 16, _, _, _, _, _⟩) (v := ?v3) rfl (by kernel_rfl) (by kernel_rfl) (by kernel_rfl) (fun _ _ _ h => h) (Or.inl ⟨rfl, ?c3⟩) hH ?r3
  case c3 => (intro w' _; go_simp; (try with_reducible rfl))
  try simp only [Act.put, List.setIfInBounds_toArray, List.set_cons_zero, List.set_cons_succ]
  refine wpAnyH_take (i := 3) (oi := ⟨some 17, _, _, _, _, _⟩) (v := ?v4) rfl (by kernel_rfl) (by kernel_rfl) (by kernel_rfl) (fun _ _ _ h => h) (Or.inl ⟨rfl, ?c4⟩) hH ?r4
  case c4 => (intro w' hS; refine take_sixteen (cfg_range hS.1) (.tmp 16) ?_ ?_ <;> rfl)
  try simp only [Act.put, List.setIfInBounds_toArray, List.set_cons_zero, List.set_cons_succ]
  refine wpAnyH_take (i := 5) (oi := ⟨some 19, _, _, _, _, _⟩) (v := ?v5) rfl (by kernel_rfl) (by kernel_rfl) (by kernel_rfl) (fun _ _ _ h => h) (Or.inl ⟨rfl, ?c5⟩) hH ?r5
  case c5 => (intro w' _; go_simp; (try with_reducible rfl))
  try simp only [Act.put, List.setIfInBounds_toArray, List.set_cons_zero, List.set_cons_succ]
  refine wpAnyH_ready (rs := [4, 6]) (by kernel_rfl) (by simp) (AllReadyH.cons rfl (fun K hK => ?_) (AllReadyH.cons rfl (fun K hK => ?_) (AllReadyH.nil)))
  · go_simp
    have HM := Lib.hid (MapAt.new W1.drew)
    refine hK.out _ _ (⟨hH.1.alloc _, hH.2.trans ((below_box W1.drew _).mono hH.2.size)⟩) (fun hH => ?_)
    clear hK K
    try simp only [Act.put, List.setIfInBounds_toArray, List.set_cons_zero, List.set_cons_succ]
    refine wpAnyH_ready (rs := [6]) (by kernel_rfl) (by simp) (AllReadyH.cons rfl (fun K hK => ?_) (AllReadyH.nil))
    go_simp
    go_at_call 28
    refine (HCL.out _ hH.2).mono ?_
    rintro e w6 ⟨v, rfl, hrd, hnew, hbp⟩
    obtain ⟨A', c', rfl, -, -⟩ := hrd.len
    have HRD := Lib.hid hrd
    have HNEW := Lib.hid (fun h a n c e => Nat.le_trans hH.2.size (hnew h a n c e))
    have HML := Lib.hid (HM.out.keep (hbp.block _ HM.out.lt))
    have HMZ := Lib.hid HS1.out.drew.size
    have HNE := Lib.hid (fun h a n c e => Nat.ne_of_gt (Nat.lt_of_lt_of_le HM.out.lt (hnew h a n c e)))
    refine hK.out _ _ (⟨hH.1.next hbp, hH.2.trans (hbp.mono hH.2.size)⟩) (fun hH => ?_)
    clear hK K
    clear hbp hrd hnew HM
    try simp only [Act.put, List.setIfInBounds_toArray, List.set_cons_zero, List.set_cons_succ]
    refine wpAnyH_take (i := 7) (oi := ⟨some 21, _, _, _, _, _⟩) (v := ?v6) rfl (by kernel_rfl) (by kernel_rfl) (by kernel_rfl) (fun _ _ _ h => h) (Or.inl ⟨rfl, ?c6⟩) hH ?r6
    case c6 => (intro w' _; go_simp; (try with_reducible rfl))
    try simp only [Act.put, List.setIfInBounds_toArray, List.set_cons_zero, List.set_cons_succ]
    refine wpAnyH_ready (rs := [8]) (by kernel_rfl) (by simp) (AllReadyH.cons rfl (fun K hK => ?_) (AllReadyH.nil))
    have HB8 := Lib.hid hH.2
    go_simp
    refine hK.out _ _ (⟨hH.1.alloc _, hH.2.trans ((below_box _ _).mono hH.2.size)⟩) (fun hH => ?_)
    clear hK K
    try simp only [Act.put, List.setIfInBounds_toArray, List.set_cons_zero, List.set_cons_succ]
    refine wpAnyH_take (i := 9) (oi := ⟨some 7, _, _, _, _, _⟩) (v := ?v7) rfl (by kernel_rfl) (by kernel_rfl) (by kernel_rfl) (fun _ _ _ h => h) (Or.inl ⟨rfl, ?c7⟩) hH ?r7
    case c7 => (intro w' _; go_simp; (try with_reducible rfl))
    try simp only [Act.put, List.setIfInBounds_toArray, List.set_cons_zero, List.set_cons_succ]
    refine wpAnyH_done (by kernel_rfl) ?_ _
    have HB9 := Lib.hid hH.2
    clear hH
    go_wp2_with fail
    go_ret2
    have HP := new_raw HRD.out HNEW.out HML.out HMZ.out HE.out HB8.out HNE.out HN1.out HN2.out HOK.out HLN.out HTM.out
    try simp only [World.size_alloc] at HP
    exact ⟨_, _, _, rfl, HP, HB9.out, fun j hj => And.left hj⟩
  · go_simp
    go_at_call 28
    refine (HCL.out _ hH.2).mono ?_
    rintro e w6 ⟨v, rfl, hrd, hnew, hbp⟩
    obtain ⟨A', c', rfl, -, -⟩ := hrd.len
    have HRD := Lib.hid hrd
    have HNEW := Lib.hid (fun h a n c e => Nat.le_trans hH.2.size (hnew h a n c e))
    
    refine hK.out _ _ (⟨hH.1.next hbp, hH.2.trans (hbp.mono hH.2.size)⟩) (fun hH => ?_)
    clear hK K
    clear hbp hrd hnew
    try simp only [Act.put, List.setIfInBounds_toArray, List.set_cons_zero, List.set_cons_succ]
    refine wpAnyH_ready (rs := [4]) (by kernel_rfl) (by simp) (AllReadyH.cons rfl (fun K hK => ?_) (AllReadyH.nil))
    go_simp
    have HML := Lib.hid (MapAt.new w6)
    have HNE := Lib.hid (fun h a n c e => Nat.ne_of_lt (HRD.out.lt_of h a n c e))
    replace HRD := Lib.hid (HRD.out.below (below_box w6 (.map #[] 0)))
    have HMZ := Lib.hid hH.2.size
    refine hK.out _ _ (⟨hH.1.alloc _, hH.2.trans ((below_box w6 _).mono hH.2.size)⟩) (fun hH => ?_)
    clear hK K
    try simp only [Act.put, List.setIfInBounds_toArray, List.set_cons_zero, List.set_cons_succ]
    refine wpAnyH_take (i := 7) (oi := ⟨some 21, _, _, _, _, _⟩) (v := ?v8) rfl (by kernel_rfl) (by kernel_rfl) (by kernel_rfl) (fun _ _ _ h => h) (Or.inl ⟨rfl, ?c8⟩) hH ?r8
    case c8 => (intro w' _; go_simp; (try with_reducible rfl))
    try simp only [Act.put, List.setIfInBounds_toArray, List.set_cons_zero, List.set_cons_succ]
    refine wpAnyH_ready (rs := [8]) (by kernel_rfl) (by simp) (AllReadyH.cons rfl (fun K hK => ?_) (AllReadyH.nil))
    have HB8 := Lib.hid hH.2
    go_simp
    refine hK.out _ _ (⟨hH.1.alloc _, hH.2.trans ((below_box _ _).mono hH.2.size)⟩) (fun hH => ?_)
    clear hK K
    try simp only [Act.put, List.setIfInBounds_toArray, List.set_cons_zero, List.set_cons_succ]
    refine wpAnyH_take (i := 9) (oi := ⟨some 7, _, _, _, _, _⟩) (v := ?v9) rfl (by kernel_rfl) (by kernel_rfl) (by kernel_rfl) (fun _ _ _ h => h) (Or.inl ⟨rfl, ?c9⟩) hH ?r9
    case c9 => (intro w' _; go_simp; (try with_reducible rfl))
    try simp only [Act.put, List.setIfInBounds_toArray, List.set_cons_zero, List.set_cons_succ]
    refine wpAnyH_done (by kernel_rfl) ?_ _
    have HB9 := Lib.hid hH.2
    clear hH
    go_wp2_with fail
    go_ret2
    have HP := new_raw HRD.out HNEW.out HML.out HMZ.out HE.out HB8.out HNE.out HN1.out HN2.out HOK.out HLN.out HTM.out
    try simp only [World.size_alloc] at HP
    exact ⟨_, _, _, rfl, HP, HB9.out, fun j hj => And.left hj⟩
end Au
end Go.Proofs.YtcjppfggllbbeaaGreatDoor
/- Layer 18: the contract of the laws' 'some': a firewall behind anything that is done to it. (Written by wip/tools/mkAulS.py.) -/
set_option linter.unusedVariables false
set_option linter.unusedSimpArgs false
set_option maxRecDepth 100000
namespace Go.Proofs.YtcjppfggllbbeaaGreatDoor
open Go.ChangeShapes Go.WideShapes Go.ChangeAt Go.RowKit Go.Mtl Go.Lib
namespace Au
open AutM
open RulM (R)
open MatM (K)
/-- The slice v reads as these acts; where it is not empty it lies below block B, and so do their rules. -/
def Das (w : World) (B : Nat) (v : Value) (xs : List Dk) : Prop :=
  ∃ A c, v = .slice A xs.length c ∧ xs.length ≤ c ∧ c ≤ 9223372036854775807 ∧ (0 < xs.length → ∃ b off, A = some ⟨b, off, none⟩ ∧ b < B ∧ ∀ (i : Nat) (x : Dk), xs[i]? = some x → ∀ (j : Nat) (u : Value), (doC x)[j]? = some u → w.cell? ⟨b, off + (i * 15 + j), none⟩ = some u) ∧
    ∀ x ∈ xs, Rds w B x.va x.l
theorem Das.keep {w w' : World} {B : Nat} {v : Value} {xs : List Dk} (h : Das w B v xs) (hk : ∀ p : Addr, p.block < B → w'.cell? p = w.cell? p) : Das w' B v xs := by
  obtain ⟨A, c, e, h1, h2, h3, h4⟩ := h
  refine ⟨A, c, e, h1, h2, fun hn => ?_, fun x hx => (h4 x hx).keep hk⟩
  obtain ⟨b, off, e2, hb, hc⟩ := h3 hn
  exact ⟨b, off, e2, hb, fun i x hx j u hu => (hk ⟨b, _, none⟩ hb).trans (hc i x hx j u hu)⟩
theorem Das.below {w w' : World} {B : Nat} {v : Value} {xs : List Dk} (h : Das w B v xs) (hb : Below B w w') : Das w' B v xs := h.keep fun _ hp => hb.cell hp
theorem Das.len {w : World} {B : Nat} {v : Value} {xs : List Dk} (h : Das w B v xs) : ∃ A c, v = .slice A xs.length c ∧ xs.length ≤ c ∧ c ≤ 9223372036854775807 := by
  obtain ⟨A, c, e, h1, h2, _⟩ := h
  exact ⟨A, c, e, h1, h2⟩
theorem do_size (x : Dk) : (Tryz.prog.info? 47).map (·.size) = some (doC x).toList.length := (by kernel_rfl : (Tryz.prog.info? 47).map (·.size) = some 15)
theorem do_size' {a0 a1 a2 a3 a4 a5 a6 a7 a8 a9 b0 b1 b2 b3 b4 : Value} : (Tryz.prog.info? 47).map (·.size) = some [a0, a1, a2, a3, a4, a5, a6, a7, a8, a9, b0, b1, b2, b3, b4].length := (by kernel_rfl : (Tryz.prog.info? 47).map (·.size) = some 15)
/-- One of the acts: where its cells are. -/
theorem Das.at_ {w : World} {B : Nat} {v : Value} {xs : List Dk} (h : Das w B v xs) {len : Nat} (hl : xs.length = len) {i : Nat} {x : Dk} (hx : xs[i]? = some x) :
    ∃ b off c, v = .slice (some ⟨b, off, none⟩) len c ∧ len ≤ c ∧ c ≤ 9223372036854775807 ∧ w.rangeAt b (off + i * 15) (doC x).toList ∧ Rds w B x.va x.l := by
  subst hl
  obtain ⟨A, c, rfl, h1, h2, h3, h4⟩ := h
  obtain ⟨b, off, rfl, hb, hc⟩ := h3 (by have := (List.getElem?_eq_some_iff.1 hx).1; omega)
  refine ⟨b, off, c, rfl, h1, h2, fun j u hu => ?_, h4 x (List.mem_of_getElem? hx)⟩
  rw [Nat.add_assoc]
  exact hc i x hx j u (by simpa using hu)
/-- The config read whole. -/
theorem take_cfg {w : World} {g : Nat} {z N : Int} {T : Nat → Int} {t : TypeId} (H : Blk w g (cfc z N T) t) {ρ : Operand → Value} {o : Oper} (x : Operand) (ho : o.op = .load 24 x) (hx : ρ x = .pointer (some ⟨g, 0, none⟩)) :
    (execOp ρ o).run Tryz.prog w = .ok (.value (.agg (cfc z N T))) w := by
  have h : w.rangeAt g 0 (cfc z N T).toList := by
    intro j v hv
    rw [Nat.zero_add]
    exact H.cell j v (by simpa using hv)
  unfold execOp
  simp only [ho, hx, Instr.loadAt, Instr.sureAddr, Sem.run_bind, Sem.run_pure, Result.andThen_ok, run_loadVar_mid w g 0 24 (cfc z N T).toList _ h Tryz.underlying24 rfl (cfg_size z N T)]
/-- A firewall that a law made; what was there before. -/
structure Am (w : World) (O : Nat → Prop) (B M : Nat) (N : Int) (T : Nat → Int) (s : St) (W : World) : Prop where
  fw : PAt W O B M N T s
  env : Env W
  bel : Below w.heap.size w W
  new : ∀ j, O j → w.heap.size ≤ j
section
variable {w W w' : World} {O O' : Nat → Prop} {B M : Nat} {N : Int} {T : Nat → Int} {s s' : St}
theorem Am.next (H : Am w O B M N T s W) (hb : Below W.heap.size W w') : Am w O B M N T s w' := ⟨H.fw.next hb, H.env.below hb, H.bel.trans (hb.mono H.bel.size), H.new⟩
theorem PAt.far_ (H : PAt W O B M N T s) : ∀ j, O j → Far j := by obtain ⟨⟨li, h⟩, _⟩ := H; exact h.hi
theorem PAt.lt_ (H : PAt W O B M N T s) : ∀ j, O j → j < W.heap.size := by obtain ⟨⟨li, h⟩, _⟩ := H; exact h.lt
theorem Am.turn (H : Am w O B M N T s W) (hp : PAt w' O' B M N T s') (ho : Only O W w') (hO : ∀ j, O' j → O j ∨ W.heap.size ≤ j) : Am w O' B M N T s' w' :=
  ⟨hp, H.env.only ho H.fw.far_, H.bel.trans (ho.below H.new H.bel.size), fun j hj => (hO j hj).elim (H.new j) (fun h => Nat.le_trans H.bel.size h)⟩
theorem Am.same (H : Am w O B M N T s W) (hp : PAt w' O B M N T s') (ho : Only O W w') : Am w O B M N T s' w' := H.turn hp ho fun _ h => .inl h
end
set_option maxHeartbeats 2000000 in
theorem some_no (w : World) (z N : Int) (T : Nat → Int) (A : Option Addr) (n c : Nat) (rs : List R) (va : Value) (xs : List Dk) (he : Env w) (hz : -9223372036854775808 ≤ z ∧ z ≤ 9223372036854775807) (htm : ∀ i, -9223372036854775808 ≤ T i ∧ T i ≤ 9223372036854775807) (hn : rs.length = n) (hr : Rds w w.heap.size (.slice A n c) rs) (ho : ∀ r ∈ rs, r.Ok) (h0 : chkE z N (few rs) ≠ 0) :
    Calls Tryz.prog 17 #[.agg (cfc z N T), .slice A n c, va] w fun e w' => e = .returned (.pointer none) ∧ Below w.heap.size w w' := by
  have HFW : Hid (∀ W, Below w.heap.size w W → Calls Tryz.prog 9 #[.slice A n c] W fun e w' => e = .returned (.slice A (few rs).length c) ∧ W = w') := fun W h => few_any A n c rs W hn (hr.below h)
  have HNW : Hid (∀ W, Below w.heap.size w W → Calls Tryz.prog 8 #[.agg (cfc z N T), .slice A (few rs).length c] W fun e w' => e = .returned (.tuple #[.pointer none, .int .i64 (chkE z N (few rs))]) ∧ Below W.heap.size W w') := fun W h =>
    new_bad z N T hz htm (he.below h) A (few rs).length c (few rs) rfl (few_rds (hr.below h)) (few_ok ho) (by have := (few_len rs).1; omega) h0
  generalize (few rs).length = fl at HFW HNW
  generalize chkE z N (few rs) = ce at HNW h0
  have d0 : (ce != 0) = true := by simpa using h0
  have HX1 := Lib.hid (Blk.box w (cfc z N T) 24)
  have HB1 := Lib.hid (below_box w (.cells (cfc z N T) 24))
  clear he hn hr ho h0 hz htm
  go_enter Tryz.func17, Tryz.ntmps17
  go_wp2_with fail
  refine wp_region_held_drew (S := fun w' => Blk w' w.heap.size (cfc z N T) 24 ∧ Below w.heap.size w w') (by kernel_rfl) (⟨HX1.out.drew, HB1.out.drew⟩) (fun hH => ?_)
  refine wpAnyH_take (i := 0) (oi := ⟨some 12, _, _, _, _, _⟩) (v := ?v1) rfl (by kernel_rfl) (by kernel_rfl) (by kernel_rfl) (fun _ _ _ h => h) (Or.inl ⟨rfl, ?c1⟩) hH ?r1
  case c1 => (intro w' hS; refine take_cfg hS.1 (.tmp 3) ?_ ?_ <;> rfl)
  try simp only [Act.put, List.setIfInBounds_toArray, List.set_cons_zero, List.set_cons_succ]
  refine wpAnyH_take (i := 1) (oi := ⟨some 13, _, _, _, _, _⟩) (v := ?v2) rfl (by kernel_rfl) (by kernel_rfl) (by kernel_rfl) (fun _ _ _ h => h) (Or.inl ⟨rfl, ?c2⟩) hH ?r2
  case c2 => (intro w' _; go_simp; (try with_reducible rfl))
  try simp only [Act.put, List.setIfInBounds_toArray, List.set_cons_zero, List.set_cons_succ]
  refine wpAnyH_ready (rs := [2]) (by kernel_rfl) (by simp) (AllReadyH.cons rfl (fun K hK => ?_) (AllReadyH.nil))
  go_simp
  go_at_call 9
  refine (HFW.out _ hH.2).mono ?_
  rintro e w5 ⟨rfl, rfl⟩
  refine hK.out _ _ (hH) (fun hH => ?_)
  clear hK K
  try simp only [Act.put, List.setIfInBounds_toArray, List.set_cons_zero, List.set_cons_succ]
  refine wpAnyH_ready (rs := [3]) (by kernel_rfl) (by simp) (AllReadyH.cons rfl (fun K hK => ?_) (AllReadyH.nil))
  go_simp
  go_at_call 8
  refine (HNW.out _ hH.2).mono ?_
  rintro e w6 ⟨rfl, hb⟩
  refine hK.out _ _ (⟨hH.1.next hb, hH.2.trans (hb.mono hH.2.size)⟩) (fun hH => ?_)
  clear hK K
  clear hb
  try simp only [Act.put, List.setIfInBounds_toArray, List.set_cons_zero, List.set_cons_succ]
  refine wpAnyH_take (i := 4) (oi := ⟨some 11, _, _, _, _, _⟩) (v := ?v3) rfl (by kernel_rfl) (by kernel_rfl) (by kernel_rfl) (fun _ _ _ h => h) (Or.inl ⟨rfl, ?c3⟩) hH ?r3
  case c3 => (intro w' _; go_simp; (try with_reducible rfl))
  try simp only [Act.put, List.setIfInBounds_toArray, List.set_cons_zero, List.set_cons_succ]
  refine wpAnyH_take (i := 5) (oi := ⟨some 16, _, _, _, _, _⟩) (v := ?v4) rfl (by kernel_rfl) (by kernel_rfl) (by kernel_rfl) (fun _ _ _ h => h) (Or.inl ⟨rfl, ?c4⟩) hH ?r4
  case c4 => (intro w' _; go_simp; (try with_reducible rfl))
  try simp only [Act.put, List.setIfInBounds_toArray, List.set_cons_zero, List.set_cons_succ]
  refine wpAnyH_take (i := 6) (oi := ⟨some 17, _, _, _, _, _⟩) (v := ?v5) rfl (by kernel_rfl) (by kernel_rfl) (by kernel_rfl) (fun _ _ _ h => h) (Or.inl ⟨rfl, ?c5⟩) hH ?r5
  case c5 => (intro w' _; go_simp; (try with_reducible rfl))
  try simp only [Act.put, List.setIfInBounds_toArray, List.set_cons_zero, List.set_cons_succ]
  refine wpAnyH_take (i := 7) (oi := ⟨some 7, _, _, _, _, _⟩) (v := ?v6) rfl (by kernel_rfl) (by kernel_rfl) (by kernel_rfl) (fun _ _ _ h => h) (Or.inl ⟨rfl, ?c6⟩) hH ?r6
  case c6 => (intro w' _; go_simp; (try with_reducible rfl))
  try simp only [Act.put, List.setIfInBounds_toArray, List.set_cons_zero, List.set_cons_succ]
  refine wpAnyH_take (i := 8) (oi := ⟨some 8, _, _, _, _, _⟩) (v := ?v7) rfl (by kernel_rfl) (by kernel_rfl) (by kernel_rfl) (fun _ _ _ h => h) (Or.inl ⟨rfl, ?c7⟩) hH ?r7
  case c7 => (intro w' _; go_simp; (try with_reducible rfl))
  try simp only [Act.put, List.setIfInBounds_toArray, List.set_cons_zero, List.set_cons_succ]
  refine wpAnyH_done (by kernel_rfl) ?_ _
  have HB := Lib.hid hH.2
  clear hH
  go_wp2_with fail
  go_ret
  exact ⟨rfl, HB.out⟩
set_option maxHeartbeats 8000000 in
theorem some_yes (w : World) (z N : Int) (T : Nat → Int) (A : Option Addr) (n c : Nat) (rs : List R) (Aa : Option Addr) (len cap : Nat) (xs : List Dk) (he : Env w) (hz : -9223372036854775808 ≤ z ∧ z ≤ 9223372036854775807) (htm : ∀ i, -9223372036854775808 ≤ T i ∧ T i ≤ 9223372036854775807) (hn : rs.length = n) (hr : Rds w w.heap.size (.slice A n c) rs) (ho : ∀ r ∈ rs, r.Ok) (hl : xs.length = len) (hd : Das w w.heap.size (.slice Aa len cap) xs) (hxo : ∀ x ∈ xs, x.Ok) (h0 : chkE z N (few rs) = 0) :
    Calls Tryz.prog 17 #[.agg (cfc z N T), .slice A n c, .slice Aa len cap] w fun e w' => ∃ O B M, e = .returned (ptr B) ∧ Am w O B M N T (runS N T (newS (few rs)) (xs.take 60)) w' := by
  have HFW : Hid (∀ W, Below w.heap.size w W → Calls Tryz.prog 9 #[.slice A n c] W fun e w' => e = .returned (.slice A (few rs).length c) ∧ W = w') := fun W h => few_any A n c rs W hn (hr.below h)
  have HNW : Hid (∀ W, Below w.heap.size w W → Calls Tryz.prog 8 #[.agg (cfc z N T), .slice A (few rs).length c] W fun e w' => ∃ O B M, e = .returned (.tuple #[ptr B, .int .i64 0]) ∧ PAt w' O B M N T (newS (few rs)) ∧ Below W.heap.size W w' ∧ ∀ j, O j → W.heap.size ≤ j) := fun W h =>
    new_ok z N T hz htm (he.below h) A (few rs).length c (few rs) rfl (few_rds (hr.below h)) (few_ok ho) (by have := (few_len rs).1; omega) h0
  generalize (few rs).length = fl at HFW HNW
  have HX1 := Lib.hid (Blk.box w (cfc z N T) 24)
  have HB1 := Lib.hid (below_box w (.cells (cfc z N T) 24))
  obtain ⟨Ab, cb, ee, hlc, hcc⟩ := hd.len
  injection ee with ea el ec
  subst ea ec
  rw [hl] at hlc
  have HE := Lib.hid he
  have HL := Lib.hid hl
  have HD := Lib.hid hd
  have HXO := Lib.hid hxo
  clear he hn hr ho h0 hz htm hl hd hxo el
  go_enter Tryz.func17, Tryz.ntmps17
  go_wp2_with fail
  refine wp_region_held_drew (S := fun w' => Blk w' w.heap.size (cfc z N T) 24 ∧ Below w.heap.size w w') (by kernel_rfl) (⟨HX1.out.drew, HB1.out.drew⟩) (fun hH => ?_)
  refine wpAnyH_take (i := 0) (oi := ⟨some 12, _, _, _, _, _⟩) (v := ?v101) rfl (by kernel_rfl) (by kernel_rfl) (by kernel_rfl) (fun _ _ _ h => h) (Or.inl ⟨rfl, ?c101⟩) hH ?r101
  case c101 => (intro w' hS; refine take_cfg hS.1 (.tmp 3) ?_ ?_ <;> rfl)
  try simp only [Act.put, List.setIfInBounds_toArray, List.set_cons_zero, List.set_cons_succ]
  refine wpAnyH_take (i := 1) (oi := ⟨some 13, _, _, _, _, _⟩) (v := ?v102) rfl (by kernel_rfl) (by kernel_rfl) (by kernel_rfl) (fun _ _ _ h => h) (Or.inl ⟨rfl, ?c102⟩) hH ?r102
  case c102 => (intro w' _; go_simp; (try with_reducible rfl))
  try simp only [Act.put, List.setIfInBounds_toArray, List.set_cons_zero, List.set_cons_succ]
  refine wpAnyH_ready (rs := [2]) (by kernel_rfl) (by simp) (AllReadyH.cons rfl (fun K hK => ?_) (AllReadyH.nil))
  go_simp
  go_at_call 9
  refine (HFW.out _ hH.2).mono ?_
  rintro e w5 ⟨rfl, rfl⟩
  refine hK.out _ _ (hH) (fun hH => ?_)
  clear hK K
  try simp only [Act.put, List.setIfInBounds_toArray, List.set_cons_zero, List.set_cons_succ]
  refine wpAnyH_ready (rs := [3]) (by kernel_rfl) (by simp) (AllReadyH.cons rfl (fun K hK => ?_) (AllReadyH.nil))
  go_simp
  go_at_call 8
  refine (HNW.out _ hH.2).mono ?_
  rintro e w6 ⟨O, B, M, rfl, hp, hb, hO⟩
  have HA6 : Hid (Am w O B M N T (newS (few rs)) w6) := ⟨hp, (HE.out.below hH.2).below hb, hH.2.trans (hb.mono hH.2.size), fun j hj => Nat.le_trans hH.2.size (hO j hj)⟩
  refine hK.out _ _ (⟨hH.1.next hb, hH.2.trans (hb.mono hH.2.size)⟩) (fun hH => ?_)
  clear hK K
  clear hb hp hO
  try simp only [Act.put, List.setIfInBounds_toArray, List.set_cons_zero, List.set_cons_succ]
  refine wpAnyH_take (i := 4) (oi := ⟨some 11, _, _, _, _, _⟩) (v := ?v103) rfl (by kernel_rfl) (by kernel_rfl) (by kernel_rfl) (fun _ _ _ h => h) (Or.inl ⟨rfl, ?c103⟩) hH ?r103
  case c103 => (intro w' _; go_simp; (try with_reducible rfl))
  try simp only [Act.put, List.setIfInBounds_toArray, List.set_cons_zero, List.set_cons_succ]
  refine wpAnyH_take (i := 5) (oi := ⟨some 16, _, _, _, _, _⟩) (v := ?v104) rfl (by kernel_rfl) (by kernel_rfl) (by kernel_rfl) (fun _ _ _ h => h) (Or.inl ⟨rfl, ?c104⟩) hH ?r104
  case c104 => (intro w' _; go_simp; (try with_reducible rfl))
  try simp only [Act.put, List.setIfInBounds_toArray, List.set_cons_zero, List.set_cons_succ]
  refine wpAnyH_take (i := 6) (oi := ⟨some 17, _, _, _, _, _⟩) (v := ?v105) rfl (by kernel_rfl) (by kernel_rfl) (by kernel_rfl) (fun _ _ _ h => h) (Or.inl ⟨rfl, ?c105⟩) hH ?r105
  case c105 => (intro w' _; go_simp; (try with_reducible rfl))
  try simp only [Act.put, List.setIfInBounds_toArray, List.set_cons_zero, List.set_cons_succ]
  refine wpAnyH_take (i := 7) (oi := ⟨some 7, _, _, _, _, _⟩) (v := ?v106) rfl (by kernel_rfl) (by kernel_rfl) (by kernel_rfl) (fun _ _ _ h => h) (Or.inl ⟨rfl, ?c106⟩) hH ?r106
  case c106 => (intro w' _; go_simp; (try with_reducible rfl))
  try simp only [Act.put, List.setIfInBounds_toArray, List.set_cons_zero, List.set_cons_succ]
  refine wpAnyH_take (i := 8) (oi := ⟨some 8, _, _, _, _, _⟩) (v := ?v107) rfl (by kernel_rfl) (by kernel_rfl) (by kernel_rfl) (fun _ _ _ h => h) (Or.inl ⟨rfl, ?c107⟩) hH ?r107
  case c107 => (intro w' _; go_simp; (try with_reducible rfl))
  try simp only [Act.put, List.setIfInBounds_toArray, List.set_cons_zero, List.set_cons_succ]
  refine wpAnyH_done (by kernel_rfl) ?_ _
  clear hH
  go_wp2_with fail
  go_loopw [9] (fun vi wr => ∃ (i : Nat) (O : Nat → Prop), vi = .int .i64 (i : Int) ∧ i ≤ len ∧ i ≤ 60 ∧ Hid (Am w O B M N T (runS N T (newS (few rs)) (xs.take i)) wr)) (fun vi _ => 60 - (RowKit.intOf vi).toNat)
  case atStart => exact ⟨0, O, rfl, by omega, by omega, HA6⟩
  case round =>
    clear HA6 O
    obtain ⟨i, O, rfl, hi1, hi2, HA⟩ := hrel
    by_cases h1 : i < len
    · by_cases h2 : i < 60
      · obtain ⟨x, hx⟩ : ∃ x, xs[i]? = some x := ⟨_, List.getElem?_eq_getElem (by rw [HL.out]; exact h1)⟩
        obtain ⟨b, off, c4, ev, -, -, hrg, hrd⟩ := (HD.out.below HA.out.bel).at_ HL.out hx
        injection ev with ev _ ec
        subst ev ec
        have hxo := HXO.out x (List.mem_of_getElem? hx)
        have HSN : Hid (runS N T (newS (few rs)) (xs.take (i + 1)) = stepS N T (runS N T (newS (few rs)) (xs.take i)) x) := by
          show _ = _
          have hlt : i < xs.length := (List.getElem?_eq_some_iff.1 hx).1
          rw [List.take_succ_eq_append_getElem hlt, run_snoc, (List.getElem?_eq_some_iff.1 hx).2]
        clear hx
        obtain ⟨Av, cv, eva, -, -⟩ := hrd.len
        obtain ⟨xk, xn, xp, xe, xl, xv⟩ := x
        simp only at eva hrd
        subst eva
        have HRG := Lib.hid hrg
        have HRD := Lib.hid hrd
        have HXI := Lib.hid hxo
        generalize runS N T (newS (few rs)) (xs.take i) = s at HA HSN
        have hk0 : (xk : Int) ≤ 255 := by have := hxo.kd; simp only at this; omega
        clear hrg hrd hxo
        have HA2 := Lib.hid (HA.out.next (below_box wr (.cells (doC ⟨xk, xn, xp, xe, xl, .slice Av xl.length cv⟩) 47)))
        have hk8 : (xk : Int) % 8 = 0 ∨ (xk : Int) % 8 = 1 ∨ (xk : Int) % 8 = 2 ∨ (xk : Int) % 8 = 3 ∨ 4 ≤ (xk : Int) % 8 := by omega
        rcases hk8 with hq | hq | hq | hq | hq
        · have hst : stepS N T s ⟨xk, xn, xp, xe, xl, .slice Av xl.length cv⟩ = tickS s xn := by unfold stepS; simp only; rw [if_pos (by omega)]
          rw [hst] at HSN
          clear hst
          go_wp2_with (refine wpList_load_mid rfl 47 (.tmp 32) rfl b (off + i * 15) rfl [.int .u8 (xk : Int), .int .i64 xn, .int .u8 (xp.pr : Int), .int .u32 (xp.sr : Int), .int .u32 (xp.ds : Int), .int .u16 (xp.sp : Int), .int .u16 (xp.dp : Int), .int .u8 (xp.fl : Int), .int .u8 (xp.kd : Int), .int .u32 (xe.a : Int), .int .u32 (xe.b : Int), .int .u16 (xe.p : Int), .int .u16 (xe.q : Int), .int .u8 (xe.r : Int), .slice Av xl.length cv] _ HRG.out Tryz.underlying47 rfl do_size' ?_)
          go_at_call 24
          refine (tick_any HA2.out.fw HA2.out.env xn HXI.out.n).mono ?_
          rintro e w7 ⟨rfl, hp7, ho7⟩
          have HA3 := Lib.hid (HA2.out.same hp7 ho7)
          clear hp7 ho7
          go_wp2_with fail
          go_roundw
          case rel => exact ⟨i + 1, O, by go_num, by omega, by omega, by rw [HSN.out]; exact HA3⟩
          case measure => simp [RowKit.intOf]; omega
        · have hst : stepS N T s ⟨xk, xn, xp, xe, xl, .slice Av xl.length cv⟩ = swapS s (few xl) := by unfold stepS; simp only; rw [if_neg (by omega), if_pos (by omega)]
          rw [hst] at HSN
          clear hst
          go_wp2_with (refine wpList_load_mid rfl 47 (.tmp 32) rfl b (off + i * 15) rfl [.int .u8 (xk : Int), .int .i64 xn, .int .u8 (xp.pr : Int), .int .u32 (xp.sr : Int), .int .u32 (xp.ds : Int), .int .u16 (xp.sp : Int), .int .u16 (xp.dp : Int), .int .u8 (xp.fl : Int), .int .u8 (xp.kd : Int), .int .u32 (xe.a : Int), .int .u32 (xe.b : Int), .int .u16 (xe.p : Int), .int .u16 (xe.q : Int), .int .u8 (xe.r : Int), .slice Av xl.length cv] _ HRG.out Tryz.underlying47 rfl do_size' ?_)
          go_at_call 9
          have HRD2 : Hid (Rds (wr.alloc (.cells (doC ⟨xk, xn, xp, xe, xl, .slice Av xl.length cv⟩) 47)) (wr.alloc (.cells (doC ⟨xk, xn, xp, xe, xl, .slice Av xl.length cv⟩) 47)).heap.size (.slice Av xl.length cv) xl) := (HRD.out.mono HA.out.bel.size).below (below_box _ _)
          have HNO : Hid (0 < (few xl).length → ∀ a n' c', Value.slice Av (few xl).length cv = .slice (some a) n' c' → ¬ O a.block) := fun hp a n' c' e ho => by
            have h1 := HA.out.new _ ho
            injection e with e _ _
            have h2 := HRD.out.lt_of (by have := (few_len xl).2; omega) a xl.length cv (by rw [e])
            omega
          refine (few_any Av xl.length cv xl _ rfl HRD2.out).mono ?_
          rintro e w6 ⟨rfl, rfl⟩
          go_wp2_with fail
          go_at_call 23
          refine (swap_p HA2.out.fw HA2.out.env Av (few xl).length cv (few xl) rfl (few_rds (HRD2.out)) (few_ok HXI.out.l) (by have := (few_len xl).1; omega) HNO.out).mono ?_
          rintro e w7 ⟨O2, rfl, hp7, ho7, hO7⟩
          have HA3 := Lib.hid (HA2.out.turn hp7 ho7 hO7)
          clear hp7 ho7 hO7
          go_wp2_with fail
          go_roundw
          case rel => exact ⟨i + 1, O2, by go_num, by omega, by omega, by rw [HSN.out]; exact HA3⟩
          case measure => simp [RowKit.intOf]; omega
        · have hst : stepS N T s ⟨xk, xn, xp, xe, xl, .slice Av xl.length cv⟩ = delS s xe := by unfold stepS; simp only; rw [if_neg (by omega), if_neg (by omega), if_pos (by omega)]
          rw [hst] at HSN
          clear hst
          go_wp2_with (refine wpList_load_mid rfl 47 (.tmp 32) rfl b (off + i * 15) rfl [.int .u8 (xk : Int), .int .i64 xn, .int .u8 (xp.pr : Int), .int .u32 (xp.sr : Int), .int .u32 (xp.ds : Int), .int .u16 (xp.sp : Int), .int .u16 (xp.dp : Int), .int .u8 (xp.fl : Int), .int .u8 (xp.kd : Int), .int .u32 (xe.a : Int), .int .u32 (xe.b : Int), .int .u16 (xe.p : Int), .int .u16 (xe.q : Int), .int .u8 (xe.r : Int), .slice Av xl.length cv] _ HRG.out Tryz.underlying47 rfl do_size' ?_)
          go_at_call 19
          refine (delete_p HA2.out.fw HA2.out.env xe).mono ?_
          rintro e w7 ⟨rfl, hp7, ho7⟩
          have HA3 := Lib.hid (HA2.out.same hp7 ho7)
          clear hp7 ho7
          go_wp2_with fail
          go_roundw
          case rel => exact ⟨i + 1, O, by go_num, by omega, by omega, by rw [HSN.out]; exact HA3⟩
          case measure => simp [RowKit.intOf]; omega
        · have hst : stepS N T s ⟨xk, xn, xp, xe, xl, .slice Av xl.length cv⟩ = dropS s xe := by unfold stepS; simp only; rw [if_neg (by omega), if_neg (by omega), if_neg (by omega), if_pos (by omega)]
          rw [hst] at HSN
          clear hst
          go_wp2_with (refine wpList_load_mid rfl 47 (.tmp 32) rfl b (off + i * 15) rfl [.int .u8 (xk : Int), .int .i64 xn, .int .u8 (xp.pr : Int), .int .u32 (xp.sr : Int), .int .u32 (xp.ds : Int), .int .u16 (xp.sp : Int), .int .u16 (xp.dp : Int), .int .u8 (xp.fl : Int), .int .u8 (xp.kd : Int), .int .u32 (xe.a : Int), .int .u32 (xe.b : Int), .int .u16 (xe.p : Int), .int .u16 (xe.q : Int), .int .u8 (xe.r : Int), .slice Av xl.length cv] _ HRG.out Tryz.underlying47 rfl do_size' ?_)
          go_at_call 25
          refine (drop_p HA2.out.fw HA2.out.env xe).mono ?_
          rintro e w7 ⟨rfl, hp7, ho7⟩
          have HA3 := Lib.hid (HA2.out.same hp7 ho7)
          clear hp7 ho7
          go_wp2_with fail
          go_roundw
          case rel => exact ⟨i + 1, O, by go_num, by omega, by omega, by rw [HSN.out]; exact HA3⟩
          case measure => simp [RowKit.intOf]; omega
        · have hst : stepS N T s ⟨xk, xn, xp, xe, xl, .slice Av xl.length cv⟩ = actS N T s xp := by unfold stepS; simp only; rw [if_neg (by omega), if_neg (by omega), if_neg (by omega), if_neg (by omega)]
          rw [hst] at HSN
          clear hst
          go_wp2_with (refine wpList_load_mid rfl 47 (.tmp 32) rfl b (off + i * 15) rfl [.int .u8 (xk : Int), .int .i64 xn, .int .u8 (xp.pr : Int), .int .u32 (xp.sr : Int), .int .u32 (xp.ds : Int), .int .u16 (xp.sp : Int), .int .u16 (xp.dp : Int), .int .u8 (xp.fl : Int), .int .u8 (xp.kd : Int), .int .u32 (xe.a : Int), .int .u32 (xe.b : Int), .int .u16 (xe.p : Int), .int .u16 (xe.q : Int), .int .u8 (xe.r : Int), .slice Av xl.length cv] _ HRG.out Tryz.underlying47 rfl do_size' ?_)
          go_at_call 21
          refine (act_p HA2.out.fw HA2.out.env xp HXI.out.p).mono ?_
          rintro e w7 ⟨rfl, hp7, ho7⟩
          have HA3 := Lib.hid (HA2.out.same hp7 ho7)
          clear hp7 ho7
          go_wp2_with fail
          go_roundw
          case rel => exact ⟨i + 1, O, by go_num, by omega, by omega, by rw [HSN.out]; exact HA3⟩
          case measure => simp [RowKit.intOf]; omega
      · obtain rfl : i = 60 := by omega
        have HAE := HA
        clear HA
        go_wp2_with fail
        go_ret
        exact ⟨O, B, M, rfl, HAE.out⟩
    · have HAE : Hid (Am w O B M N T (runS N T (newS (few rs)) (xs.take 60)) wr) := by
        have e : xs.take 60 = xs.take i := by rw [List.take_of_length_le (by rw [HL.out]; omega), List.take_of_length_le (by rw [HL.out]; omega)]
        rw [e]; exact HA
      clear HA
      go_wp2_with fail
      go_ret
      exact ⟨O, B, M, rfl, HAE.out⟩
end Au
end Go.Proofs.YtcjppfggllbbeaaGreatDoor
/- Layer 18: what awake does, in the plain machine: New, five Acts, a Tick, a Count. -/
set_option linter.unusedVariables false
set_option linter.unusedSimpArgs false
set_option maxRecDepth 100000
namespace Go.Proofs.YtcjppfggllbbeaaGreatDoor
open Go.ChangeShapes Go.WideShapes Go.ChangeAt Go.RowKit Go.Mtl Go.Lib
namespace Au
open AutM
open RulM (R)
open MatM (K fst accB idxI)

def r1 : R := ⟨true, 0, 0, 0, 0, 0, 0, 65535, 0, 65535⟩
def p1 : K := ⟨6, 1, 2, 3, 4, 2, 0⟩
def q1 : K := ⟨6, 2, 1, 4, 3, 18, 0⟩
def u1 : K := ⟨17, 0, 0, 0, 0, 0, 0⟩
def T1 (i : Nat) : Int := if i = 1 ∨ i = 2 then 5 else 0
theorem r1_ok : ∀ r ∈ [r1], r.Ok := by
  intro r hr
  rw [List.mem_singleton.1 hr]
  exact ⟨by decide, by decide, by decide, by decide, by decide, by decide, by decide, by decide, by decide⟩
theorem p1_ok : p1.Ok := ⟨by decide, by decide, by decide, by decide, by decide, by decide, by decide⟩
theorem q1_ok : q1.Ok := ⟨by decide, by decide, by decide, by decide, by decide, by decide, by decide⟩
theorem u1_ok : u1.Ok := ⟨by decide, by decide, by decide, by decide, by decide, by decide, by decide⟩
theorem T1_in (i : Nat) : -9223372036854775808 ≤ T1 i ∧ T1 i ≤ 9223372036854775807 := by unfold T1; split <;> omega
theorem chk_1 : chkE 1 1 [r1] = 0 := by decide +kernel
def s0 : St := newS [r1]
def s1 : St := actS 1 T1 s0 q1
def s2 : St := actS 1 T1 s1 p1
def s3 : St := actS 1 T1 s2 q1
def s4 : St := actS 1 T1 s3 u1
def s5 : St := { s4 with c := Ga.later s4.c 5 }
def s6 : St := actS 1 T1 s5 q1
def s7 : St := countS s6 3
theorem v1 : actV 1 s0 q1 = 4 := by decide +kernel
theorem v2 : actV 1 s1 p1 = 1 := by decide +kernel
theorem v3 : actV 1 s2 q1 = 1 := by decide +kernel
theorem v4 : actV 1 s3 u1 = 5 := by decide +kernel
theorem v5 : actV 1 s5 q1 = 4 := by decide +kernel
theorem v6 : statV s7 3 = 1 := by decide +kernel
theorem v7 : s7.fs.length = 0 := by decide +kernel
theorem v8 : s7.v = 0 ∧ s7.g = 0 ∧ s7.c = 5 := by decide +kernel
end Au
end Go.Proofs.YtcjppfggllbbeaaGreatDoor
