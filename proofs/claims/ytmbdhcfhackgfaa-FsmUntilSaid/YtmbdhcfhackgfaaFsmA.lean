/- Layer 17: the contracts of fsm.Open, kindOf, talk and fsm.Next. -/
import Derived.Test.YtmbdhcfhackgfaaTraB
import Derived.Test.YtmbdhcfhackgfaaComB
set_option linter.unusedVariables false
set_option linter.unusedSimpArgs false
namespace Go.Proofs.Ytmbdhcfhackgfaa
open Go.ChangeShapes Go.WideShapes Go.ChangeAt Go.RowKit Go.Mtl Go.Lib
namespace Fs
open TraM (nextN nextB openN openB)

/-- A packet's seven cells. -/
abbrev pkc (a b c d e f h : Int) : Array Value := #[.int .u8 a, .int .u32 b, .int .u32 c, .int .u16 d, .int .u16 e, .int .u8 f, .int .u8 h]
section
variable {w w' : World} {g : Nat} {a b c d e f h : Int} {t : TypeId}
theorem pk_cells (H : Blk w g (pkc a b c d e f h) t) : w.cell? ⟨g, 0, none⟩ = some (.int .u8 a) ∧ w.cell? ⟨g, 1, none⟩ = some (.int .u32 b) ∧ w.cell? ⟨g, 2, none⟩ = some (.int .u32 c) ∧ w.cell? ⟨g, 3, none⟩ = some (.int .u16 d) ∧
    w.cell? ⟨g, 4, none⟩ = some (.int .u16 e) ∧ w.cell? ⟨g, 5, none⟩ = some (.int .u8 f) ∧ w.cell? ⟨g, 6, none⟩ = some (.int .u8 h) := by
  refine ⟨?_, ?_, ?_, ?_, ?_, ?_, ?_⟩ <;> exact H.cell _ _ rfl
theorem pk_frozen (H : Blk w g (pkc a b c d e f h) t) : w.frozen? ⟨g, 0, none⟩ = false ∧ w.frozen? ⟨g, 1, none⟩ = false ∧ w.frozen? ⟨g, 2, none⟩ = false ∧ w.frozen? ⟨g, 3, none⟩ = false ∧
    w.frozen? ⟨g, 4, none⟩ = false ∧ w.frozen? ⟨g, 5, none⟩ = false ∧ w.frozen? ⟨g, 6, none⟩ = false := by
  refine ⟨?_, ?_, ?_, ?_, ?_, ?_, ?_⟩ <;> exact H.frozen _
end

/-- What Open answers: by protocol, flags and kind. -/
def opN (p f k : Int) : Int := if p = 6 then openN f.toNat else if p = 17 ∨ p = 1 ∧ k = 8 then 8 else 0
def opB (p f k : Int) : Bool := if p = 6 then openB f.toNat else decide (p = 17 ∨ p = 1 ∧ k = 8)
/-- The kind of ICMP that goes on in this direction. -/
def kd (r : Bool) : Int := match r with | true => 0 | false => 8
/-- Is a packet of UDP or ICMP one that goes on in this direction? -/
def Fits (p k : Int) (r : Bool) : Prop := p = 17 ∨ p = 1 ∧ k = kd r
instance (p k : Int) (r : Bool) : Decidable (Fits p k r) := by unfold Fits; exact inferInstance
def talkN (s : Int) (r : Bool) : Int := if s = 8 ∨ s = 9 then (if r then 9 else s) else 0
def talkB (s : Int) : Bool := decide (s = 8 ∨ s = 9)
/-- What Next answers. -/
def neN (s : Int) (r : Bool) (p f k : Int) : Int := if p = 6 then nextN s r f.toNat else if Fits p k r then talkN s r else 0
def neB (s : Int) (r : Bool) (p f k : Int) : Bool := if p = 6 then nextB s r f.toNat else if Fits p k r then talkB s else false

theorem kind_any (r : Bool) (W : World) : Calls Try.prog 17 #[.bool r] W fun e w' => e = .returned (.int .u8 (kd r)) ∧ w' = W := by
  cases r
  all_goals
    go_enter Try.func17, Try.ntmps17
    go_wp2_with fail
    go_ret
    exact ⟨rfl, rfl⟩
theorem talk_any (s : Int) (r : Bool) (W : World) : Calls Try.prog 16 #[.int .i64 s, .bool r] W fun e w' => e = .returned (.tuple #[.int .i64 (talkN s r), .bool (talkB s)]) ∧ w' = W := by
  unfold talkN talkB
  by_cases h8 : s = 8
  · subst h8
    cases r
    all_goals
      go_enter Try.func16, Try.ntmps16
      go_wp2_with fail
      go_ret2
      exact ⟨rfl, rfl⟩
  by_cases h9 : s = 9
  · subst h9
    cases r
    all_goals
      go_enter Try.func16, Try.ntmps16
      go_wp2_with fail
      go_ret2
      exact ⟨rfl, rfl⟩
  have d8 : (s != 8) = true := by simpa using h8
  have d9 : (s != 9) = true := by simpa using h9
  rw [if_neg (by omega), decide_eq_false (by omega)]
  clear h8 h9
  go_enter Try.func16, Try.ntmps16
  go_wp2_with fail
  go_ret2
  exact ⟨rfl, rfl⟩

theorem below_pk (W : World) (o : Obj) : Below W.heap.size W (W.alloc o) := (Below.refl W.heap.size W).alloc (Nat.le_refl _) o
set_option maxHeartbeats 1000000 in
theorem open_any (a b c d e f h : Int) (hf : 0 ≤ f ∧ f ≤ 255) (W : World) :
    Calls Try.prog 6 #[.agg (pkc a b c d e f h)] W fun x w' => x = .returned (.tuple #[.int .i64 (opN a f h), .bool (opB a f h)]) ∧ Below W.heap.size W w' := by
  have HX := Lib.hid (Blk.box W (pkc a b c d e f h) 25)
  have HB := Lib.hid (below_pk W (.cells (pkc a b c d e f h) 25))
  obtain ⟨x0, x1, x2, x3, x4, x5, x6⟩ := pk_cells HX.out
  unfold opN opB
  by_cases h6 : a = 6
  · subst h6
    obtain ⟨n, rfl⟩ : ∃ n : Nat, f = (n : Int) := ⟨f.toNat, by omega⟩
    have HO := Lib.hid (Tr.open_any n (by omega))
    rw [if_pos rfl, if_pos rfl, Int.toNat_natCast]
    clear hf
    go_enter Try.func6, Try.ntmps6
    go_wp2_with fail
    go_at_call 13
    refine (HO.out _).mono ?_
    rintro e w' ⟨rfl, rfl⟩
    go_wp2_with fail
    go_ret2
    exact ⟨rfl, HB.out⟩
  clear hf
  rw [if_neg h6, if_neg h6]
  have d6 : (a == 6) = false := by simpa using h6
  by_cases h17 : a = 17
  · subst h17
    rw [if_pos (.inl rfl), decide_eq_true (.inl rfl)]
    clear h6 d6
    go_enter Try.func6, Try.ntmps6
    go_wp2_with fail
    go_ret2
    exact ⟨rfl, HB.out⟩
  have d17 : (a == 17) = false := by simpa using h17
  by_cases h1 : a = 1
  · subst h1
    by_cases h8 : h = 8
    · subst h8
      rw [if_pos (.inr ⟨rfl, rfl⟩), decide_eq_true (.inr ⟨rfl, rfl⟩)]
      clear h6 d6 h17 d17
      go_enter Try.func6, Try.ntmps6
      go_wp2_with fail
      go_ret2
      exact ⟨rfl, HB.out⟩
    · have d8 : (h == 8) = false := by simpa using h8
      rw [if_neg (by omega), decide_eq_false (by omega)]
      clear h6 d6 h17 d17 h8
      go_enter Try.func6, Try.ntmps6
      go_wp2_with fail
      go_ret2
      exact ⟨rfl, HB.out⟩
  have d1 : (a == 1) = false := by simpa using h1
  rw [if_neg (by omega), decide_eq_false (by omega)]
  clear h6 h17 h1
  go_enter Try.func6, Try.ntmps6
  go_wp2_with fail
  go_ret2
  exact ⟨rfl, HB.out⟩

set_option maxHeartbeats 1000000 in
theorem next_any (s : Int) (r : Bool) (a b c d e f h : Int) (hs : -9223372036854775808 ≤ s ∧ s ≤ 9223372036854775807) (hf : 0 ≤ f ∧ f ≤ 255) (W : World) :
    Calls Try.prog 8 #[.int .i64 s, .bool r, .agg (pkc a b c d e f h)] W fun x w' => x = .returned (.tuple #[.int .i64 (neN s r a f h), .bool (neB s r a f h)]) ∧ Below W.heap.size W w' := by
  have HX := Lib.hid (Blk.box W (pkc a b c d e f h) 25)
  have HB := Lib.hid (below_pk W (.cells (pkc a b c d e f h) 25))
  obtain ⟨x0, x1, x2, x3, x4, x5, x6⟩ := pk_cells HX.out
  unfold neN neB
  by_cases h6 : a = 6
  · subst h6
    obtain ⟨n, rfl⟩ : ∃ n : Nat, f = (n : Int) := ⟨f.toNat, by omega⟩
    have HO := Lib.hid (Tr.next_any s r n hs (by omega))
    rw [if_pos rfl, if_pos rfl, Int.toNat_natCast]
    clear hf hs
    go_enter Try.func8, Try.ntmps8
    go_wp2_with fail
    go_at_call 14
    refine (HO.out _).mono ?_
    rintro e w' ⟨rfl, hb⟩
    have HB2 := Lib.hid (HB.out.trans (hb.mono HB.out.size))
    clear hb
    go_wp2_with fail
    go_ret2
    exact ⟨rfl, HB2.out⟩
  clear hf hs
  rw [if_neg h6, if_neg h6]
  have d6 : (a == 6) = false := by simpa using h6
  have HT := Lib.hid (talk_any s r)
  have HK := Lib.hid (kind_any r)
  generalize talkN s r = tn at HT ⊢
  generalize talkB s = tb at HT ⊢
  by_cases h17 : a = 17
  · subst h17
    rw [if_pos (.inl rfl), if_pos (.inl rfl)]
    clear h6 d6
    go_enter Try.func8, Try.ntmps8
    go_wp2_with fail
    go_at_call 16
    refine (HT.out _).mono ?_
    rintro e w' ⟨rfl, rfl⟩
    go_wp2_with fail
    go_ret2
    exact ⟨rfl, HB.out⟩
  have d17 : (a == 17) = false := by simpa using h17
  by_cases h1 : a = 1
  · subst h1
    by_cases h8 : h = kd r
    · have hy : Fits 1 h r := .inr ⟨rfl, h8⟩
      rw [if_pos hy, if_pos hy]
      have d8 : (h == kd r) = true := by simpa using h8
      clear h6 d6 h17 d17 hy h8
      generalize kd r = kk at HK d8
      go_enter Try.func8, Try.ntmps8
      go_wp2_with fail
      go_quiet ((go_at_call 17; exact Calls.quiet_of_same (HK.out _)))
      have HB2 := Lib.hid (HB.out.drews nq)
      clear x0 x1 x2 x3 x4 x5 x6
      go_wp2_with fail
      go_at_call 16
      refine (HT.out _).mono ?_
      rintro e w' ⟨rfl, rfl⟩
      go_wp2_with fail
      go_ret2
      exact ⟨rfl, HB2.out⟩
    · have hy : ¬ Fits 1 h r := by unfold Fits; omega
      rw [if_neg hy, if_neg hy]
      have d8 : (h == kd r) = false := by simpa using h8
      clear h6 d6 h17 d17 hy h8
      generalize kd r = kk at HK d8
      go_enter Try.func8, Try.ntmps8
      go_wp2_with fail
      go_quiet ((go_at_call 17; exact Calls.quiet_of_same (HK.out _)))
      have HB2 := Lib.hid (HB.out.drews nq)
      clear x0 x1 x2 x3 x4 x5 x6
      go_wp2_with fail
      go_ret2
      exact ⟨rfl, HB2.out⟩
  have d1 : (a == 1) = false := by simpa using h1
  have hn : ¬ Fits a h r := by unfold Fits; omega
  rw [if_neg hn, if_neg hn]
  clear h6 h17 h1 hn
  go_enter Try.func8, Try.ntmps8
  go_wp2_with fail
  go_ret2
  exact ⟨rfl, HB.out⟩
end Fs
end Go.Proofs.Ytmbdhcfhackgfaa
