/- Several texts of this proof in one file, each in its own namespace. -/
import Derived.Test.YtcockldefmmhbaaGreatDoorJ67
import Derived.Test.YtcockldefmmhbaaGreatDoorJ71
import Derived.Test.YtcockldefmmhbaaGreatDoorJ64
import Derived.Test.YtcockldefmmhbaaGreatDoorJ61
import Derived.Test.YtcockldefmmhbaaGreatDoorPrgV
import Derived.Test.YtcockldefmmhbaaGreatDoorMemE
import Derived.DeepKeys
/- Layer 21: ops on one state, in the world of a law that has blocks of its own (Lw). -/
set_option linter.unusedVariables false
set_option linter.unusedSimpArgs false
set_option maxRecDepth 100000
namespace Go.Proofs.YtcockldefmmhbaaGreatDoor
open Go.ChangeShapes Go.WideShapes Go.ChangeAt Go.RowKit Go.Mtl Go.Lib
namespace Pg
open MemM (Ms lookV)
open AutM (Ke)
open Me (ptr)
open Tb (TAt)
section
variable {b : Bs} {W w' : World} {Om Ot K X X' : Nat → Prop} {pv lv kv : Value} {S S' : Sh} {r r' : Rn} {g : Nat} {gs : List Nat} {rs : List Rn}
theorem SR.only (H : SR b Om Ot K pv S W) (ho : Only X W w') (hd : ∀ j, X j → ¬ Own Om Ot b.B b.rm pv j ∧ ¬ K j ∧ b.w0.heap.size ≤ j) : SR b Om Ot K pv S w' :=
  { mem := H.mem.far ho fun j hj e => (hd j e).1 (.inl hj), tab := H.tab.far ho fun j hj e => (hd j e).1 (.inr (.inl hj)), blk := H.blk.only ho fun e => (hd _ e).1 (.inr (.inr (.inl rfl)))
    map := H.map.only ho (fun e => (hd _ e).1 (.inr (.inr (.inr (.inl rfl))))) fun j hj e => (hd j e).2.1 hj
    pts := row_keep H.pts fun g e => ho.block g (H.pts.lt g e).2 fun h => (hd _ h).1 (.inr (.inr (.inr (.inr e))))
    bel := H.bel.trans (ho.below (fun j hj => (hd j hj).2.2) H.bel.size)
    nm := H.nm, nt := H.nt, nb := H.nb, nr := H.nr, dmt := H.dmt, dm := H.dm, dt := H.dt, br := H.br, dp := H.dp
    dk := fun j hj => ⟨(H.dk j hj).1, Nat.lt_of_lt_of_le (H.dk j hj).2 ho.size⟩ }
theorem RB.only (H : RB b Om Ot K pv g lv kv r W) (ho : Only X W w') (hg : ¬ X g) (hk : ∀ j, K j → ¬ X j) : RB b Om Ot K pv g lv kv r w' :=
  ⟨H.run.only ho hg, H.lis.only ho hk, H.kes.only ho hk, H.ng, H.dg, H.nk⟩
theorem RA.only (H : RA b Om Ot K pv g r W) (ho : Only X W w') (hg : ¬ X g) (hk : ∀ j, K j → ¬ X j) : RA b Om Ot K pv g r w' := by
  obtain ⟨lv, kv, h⟩ := H
  exact ⟨lv, kv, h.only ho hg hk⟩
/-- Ops in blocks gs on one state; X: blocks of the law's own. -/
structure Lw (b : Bs) (S : Sh) (gs : List Nat) (rs : List Rn) (X : Nat → Prop) (W : World) : Prop where
  ex : ∃ Om Ot K pv, SR b Om Ot K pv S W ∧ (∀ (i g : Nat) (r : Rn), gs[i]? = some g → rs[i]? = some r → RA b Om Ot K pv g r W) ∧ (∀ j, X j → ¬ Own Om Ot b.B b.rm pv j ∧ ¬ K j)
  ln : gs.length = rs.length
  nd : gs.Nodup
  gx : ∀ g ∈ gs, g < W.heap.size ∧ ¬ X g
  xx : ∀ j, X j → b.w0.heap.size ≤ j ∧ j < W.heap.size
/-- What others' blocks are. -/
def Away (b : Bs) (X : Nat → Prop) (j : Nat) : Prop := b.w0.heap.size ≤ j ∧ ¬ X j
theorem Lw.size (H : Lw b S gs rs X W) : b.w0.heap.size ≤ W.heap.size := by obtain ⟨_, _, _, _, h, _⟩ := H.ex; exact h.bel.size
theorem Lw.bel (H : Lw b S gs rs X W) : Below b.w0.heap.size b.w0 W := by obtain ⟨_, _, _, _, h, _⟩ := H.ex; exact h.bel
theorem Lw.ok (H : Lw b S gs rs X W) : MemM.Ok S.ms ∧ TabM.Oks S.fs ∧ KeyM.isPow (b.C.n : Int) = true := by obtain ⟨_, _, _, _, h, _⟩ := H.ex; exact ⟨h.mem.2, h.tab.2.1, h.tab.2.2⟩
/-- The law turned blocks of its own, or made some. -/
theorem Lw.turn (H : Lw b S gs rs X W) (ho : Only X W w') (hX : ∀ j, X' j → X j ∨ W.heap.size ≤ j ∧ j < w'.heap.size) : Lw b S gs rs X' w' := by
  obtain ⟨Om, Ot, K, pv, h1, h2, h3⟩ := H.ex
  have hd : ∀ j, X j → ¬ Own Om Ot b.B b.rm pv j ∧ ¬ K j ∧ b.w0.heap.size ≤ j := fun j hj => ⟨(h3 j hj).1, (h3 j hj).2, (H.xx j hj).1⟩
  refine ⟨⟨Om, Ot, K, pv, h1.only ho hd, fun i g r hg hr => (h2 i g r hg hr).only ho (H.gx g (List.mem_of_getElem? hg)).2 fun j hj e => (hd j e).2.1 hj, fun j hj => (hX j hj).elim (h3 j) fun hj => ⟨fun e => by have := h1.lt e; omega, fun e => by have := (h1.dk j e).2; omega⟩⟩,
    H.ln, H.nd, fun g hg => ⟨Nat.lt_of_lt_of_le (H.gx g hg).1 ho.size, fun e => (hX g e).elim (H.gx g hg).2 fun e => by have := (H.gx g hg).1; omega⟩, fun j hj => (hX j hj).elim (fun e => ⟨(H.xx j e).1, Nat.lt_of_lt_of_le (H.xx j e).2 ho.size⟩) fun e => ⟨Nat.le_trans H.size e.1, e.2⟩⟩
theorem Lw.next (H : Lw b S gs rs X W) (hb : Below W.heap.size W w') : Lw b S gs rs X w' := H.turn (X' := X) (Only.of_below hb) fun j h => .inl h
/-- No blocks of its own. -/
theorem Lw.of_sr {w0 : World} {C : Cf} {B mb tb rm : Nat} (h : SR (bs w0 C B mb tb rm) Om Ot K pv S W) : Lw (bs w0 C B mb tb rm) S [] [] (fun _ => False) W :=
  ⟨⟨Om, Ot, K, pv, h, fun i g r hg => by simp at hg, fun j hj => hj.elim⟩, rfl, List.nodup_nil, fun g hg => absurd hg List.not_mem_nil, fun j hj => hj.elim⟩
theorem get_add {α : Type} {l : List α} {x y : α} {i : Nat} (h : (l ++ [x])[i]? = some y) : l[i]? = some y ∨ i = l.length ∧ y = x := by
  rcases Nat.lt_or_ge i l.length with hl | hl
  · rw [List.getElem?_append_left hl] at h; exact .inl h
  · rw [List.getElem?_append_right hl] at h
    have hj : i - l.length < [x].length := (List.getElem?_eq_some_iff.1 h).1
    have : i = l.length := by simp at hj; omega
    subst this
    simp at h
    exact .inr ⟨rfl, h.symm⟩
/-- Begin. -/
theorem Lw.begin_ (H : Lw b S gs rs X W) (t op : Int) (ht : 0 ≤ t) (n : Int) (A : Option Addr) (l c : Nat) (s : ByteArray) (kd : Int) (he : EnvB b.w0) (bs : List UInt8) (hb : Bts W W.heap.size A l bs) (hc : l ≤ c) (hm : c ≤ 9223372036854775807) (hs : s.size ≤ maxLen) :
    Calls Tryz.prog 11 #[ptr b.B, .int .i64 t, .int .i64 op, .agg (opc kd n A l c s)] W fun e w' => ∃ g, e = .returned (ptr g) ∧ Lw b S (gs ++ [g]) (rs ++ [begR b.C t op kd n bs s.data.toList]) X w' ∧ Only (Away b X) W w' := by
  obtain ⟨Om, Ot, K, pv, h1, h2, h3⟩ := H.ex
  refine (begin_any h1 t op ht n A l c s kd he h1.tab.2.2 bs hb hc hm hs).mono ?_
  rintro e w' ⟨g, Om', Ot', K', pv', rfl, hg, k1, k2, k3, k4, k5, k6⟩
  have hlt : g < w'.heap.size := by obtain ⟨_, _, h⟩ := k2; exact h.run.lt
  have hn : ∀ j ∈ gs, j ≠ g := fun j hj => by have := (H.gx j hj).1; omega
  refine ⟨g, rfl, ⟨⟨Om', Ot', K', pv', k1, fun i g2 r2 hg2 hr2 => ?_, fun j hj => ⟨fun e => (k5 j e).elim (h3 j hj).1 fun e => by have := (H.xx j hj).2; omega, fun e => (k6 j e).elim (h3 j hj).2 fun e => by have := (H.xx j hj).2; omega⟩⟩, by simp [H.ln], ?_, fun j hj => ?_, fun j hj => ⟨(H.xx j hj).1, Nat.lt_of_lt_of_le (H.xx j hj).2 k4.size⟩⟩, k4.mono fun j hj => ⟨?_, fun e => (h3 j e).1 hj⟩⟩
  · rcases get_add hg2 with e | ⟨e1, rfl⟩
    · rcases get_add hr2 with e2 | ⟨e2, _⟩
      · exact k3 _ _ (h2 i g2 r2 e e2)
      · have := (List.getElem?_eq_some_iff.1 e).1; have := H.ln; omega
    · rcases get_add hr2 with e2 | ⟨_, rfl⟩
      · have := (List.getElem?_eq_some_iff.1 e2).1; have := H.ln; omega
      · exact k2
  · exact List.nodup_append.2 ⟨H.nd, List.nodup_cons.2 ⟨List.not_mem_nil, List.nodup_nil⟩, fun a ha b hb e => by rw [List.mem_singleton.1 hb] at e; exact hn a ha e⟩
  · rcases List.mem_append.1 hj with hj | hj
    · exact ⟨Nat.lt_of_lt_of_le (H.gx j hj).1 k4.size, (H.gx j hj).2⟩
    · rw [List.mem_singleton.1 hj]; exact ⟨hlt, fun e => by have := (H.xx g e).2; omega⟩
  · rcases hj with h | h | rfl | rfl | h
    · exact h1.nm j h
    · exact h1.nt j h
    · exact h1.nb
    · exact h1.nr
    · exact (h1.pts.lt j h).1
/-- What a call of an op's method leaves. -/
theorem Lw.put (H : Lw b S gs rs X W) {k : Nat} (hg : gs[k]? = some g) {Om Ot K : Nat → Prop} {pv lv kv : Value} (h1 : SR b Om Ot K pv S W) (h2 : ∀ (i g : Nat) (r : Rn), gs[i]? = some g → rs[i]? = some r → RA b Om Ot K pv g r W) (h3 : ∀ j, X j → ¬ Own Om Ot b.B b.rm pv j ∧ ¬ K j)
    (h : RB b Om Ot K pv g lv kv r W) (hy : Y (b.at_ g W (Own Om Ot b.B b.rm pv) K) S' r' w') : Lw b S' gs (rs.set k r') X w' ∧ Only (Away b X) W w' := by
  obtain ⟨Om', Ot', K', pv', k1, k2, k3, k4, k5, k6⟩ := h1.done2 h hy
  have hkl : k < gs.length := (List.getElem?_eq_some_iff.1 hg).1
  have hmem := List.mem_of_getElem? hg
  refine ⟨⟨⟨Om', Ot', K', pv', k1, fun i g2 r2 hg2 hr2 => ?_, fun j hj => ⟨fun e => (k5 j e).elim (h3 j hj).1 fun e => by have := (H.xx j hj).2; omega, fun e => (k6 j e).elim (h3 j hj).2 fun e => by have := (H.xx j hj).2; omega⟩⟩, by simp [H.ln], H.nd, fun j hj => ⟨Nat.lt_of_lt_of_le (H.gx j hj).1 k4.size, (H.gx j hj).2⟩, fun j hj => ⟨(H.xx j hj).1, Nat.lt_of_lt_of_le (H.xx j hj).2 k4.size⟩⟩, k4.mono fun j hj => ?_⟩
  · by_cases e : i = k
    · subst e
      rw [hg] at hg2
      obtain rfl := Option.some.inj hg2
      rw [List.getElem?_set_self (by rw [← H.ln]; exact hkl)] at hr2
      obtain rfl := Option.some.inj hr2
      exact k2
    · rw [List.getElem?_set_ne (fun h => e h.symm)] at hr2
      have hne : g2 ≠ g := fun e2 => by
        have hil : i < gs.length := (List.getElem?_eq_some_iff.1 hg2).1
        exact e ((List.getElem?_inj hil H.nd).1 (by rw [hg2, hg, e2]))
      exact k3 g2 r2 hne (h2 i g2 r2 hg2 hr2)
  · rcases hj with hj | rfl
    · refine ⟨?_, fun e => (h3 j e).1 hj⟩
      rcases hj with h | h | rfl | rfl | h
      · exact h1.nm j h
      · exact h1.nt j h
      · exact h1.nb
      · exact h1.nr
      · exact (h1.pts.lt j h).1
    · exact ⟨h.ng, (H.gx _ hmem).2⟩
theorem Lw.run (H : Lw b S gs rs X W) {k : Nat} (hg : gs[k]? = some g) : ∃ r, rs[k]? = some r := ⟨_, List.getElem?_eq_getElem (by have := (List.getElem?_eq_some_iff.1 hg).1; have := H.ln; omega)⟩
/-- Step. -/
theorem Lw.step (H : Lw b S gs rs X W) {k : Nat} (hg : gs[k]? = some g) (hk : rs[k]? = some r) (hr : Rm 12 S) (hF : Fit b.C S r) (he : Env b.w0) : Calls Tryz.prog 14 #[ptr g] W fun e w' => e = .returned (.bool (canB S r)) ∧ Lw b (stepA b.C S r).1 gs (rs.set k (stepA b.C S r).2) X w' ∧ Only (Away b X) W w' := by
  obtain ⟨Om, Ot, K, pv, h1, h2, h3⟩ := H.ex
  obtain ⟨lv, kv, h⟩ := h2 k g r hg hk
  refine (step_any (b := b.at_ g W (Own Om Ot b.B b.rm pv) K) (h1.begin_ ⟨lv, kv, h⟩) hr hF he).mono ?_
  rintro e w' ⟨rfl, hy⟩
  exact ⟨rfl, H.put hg h1 h2 h3 h hy⟩
/-- Done. -/
theorem Lw.done (H : Lw b S gs rs X W) {k : Nat} (hg : gs[k]? = some g) (hk : rs[k]? = some r) : Calls Tryz.prog 17 #[ptr g] W fun e w' => e = .returned (doneV r) ∧ Below W.heap.size W w' := by
  obtain ⟨Om, Ot, K, pv, h1, h2, h3⟩ := H.ex
  obtain ⟨lv, kv, h⟩ := h2 k g r hg hk
  exact done_any h
theorem Lw.gate (H : Lw b S gs rs X W) (he : Env b.w0) : Calls Tryz.prog 16 #[ptr b.B] W fun e w' => e = .returned (.agg (gtc (vG (lookV S.ms 0)) (kG (lookV S.ms 0)) (cG (lookV S.ms 0)))) ∧ Below W.heap.size W w' := by
  obtain ⟨Om, Ot, K, pv, h1, h2, h3⟩ := H.ex
  exact gate_any h1 he
theorem Lw.log (H : Lw b S gs rs X W) (hl : S.ms.ls.length ≤ 1000000000000) : Calls Tryz.prog 20 #[ptr b.B] W (Me.Cloned W S.ms.ls) := by
  obtain ⟨Om, Ot, K, pv, h1, h2, h3⟩ := H.ex
  exact log_any h1 hl
theorem Lw.points (H : Lw b S gs rs X W) (hl : S.pts.length ≤ 900000000000) : Calls Tryz.prog 19 #[ptr b.B] W fun e w' => ∃ A c, e = .returned (.slice A (real S.pts).length c) ∧ w'.ownsRow W.heap.size 89 10 (.slice A (real S.pts).length c) (real S.pts).length (pcs (real S.pts)) ∧ Below W.heap.size W w' := by
  obtain ⟨Om, Ot, K, pv, h1, h2, h3⟩ := H.ex
  exact points_any h1 hl
end
end Pg
end Go.Proofs.YtcockldefmmhbaaGreatDoor
/- Layer 21: awake. (Written by wip/tools/mkPrhG.py.) -/
set_option linter.unusedVariables false
set_option linter.unusedSimpArgs false
set_option maxRecDepth 100000
namespace Go.Proofs.YtcockldefmmhbaaGreatDoor
open Go.ChangeShapes Go.WideShapes Go.ChangeAt Go.RowKit Go.Mtl Go.Lib
namespace Pg
open MemM (Ms lookV loadS swapB swapS holdV lockB lockS unlockS touchS moreS)
open RulM (R)
open AutM (Ke)
open Me (ptr)
open Tb (TAt TM Fw)
/-- What the laws of this layer find in the listed variables. -/
structure EnvL (w : World) : Prop where
  eb : EnvB w
  au : Au.Env w
theorem EnvL.below {w w' : World} (h : EnvL w) (hb : Below w.heap.size w w') : EnvL w' := ⟨h.eb.below hb, h.au.only (O := fun _ => False) (Only.of_below hb) fun _ e => e.elim⟩
/-- A value of a type that may be a key equals itself. -/
theorem eq_self {t : TypeId} (h : Tryz.prog.keyTypeAt 5 t = true) (v : Value) (hf : v.formed Tryz.prog t = true) (hl : (Tryz.prog.keyLits 5 t v.cells.toList).isSome = true) (w : World) : (Op.equalIn 10000 t v v).run Tryz.prog w = .ok true w := by
  obtain ⟨l, hl⟩ := Option.isSome_iff_exists.1 hl
  obtain ⟨r, h1, h2⟩ := run_equalIn_deep 9995 5 t h w 5 5 v v l l hf hf hl hl
  rw [h2.2 rfl] at h1
  exact h1
theorem pt_key : Tryz.prog.keyTypeAt 5 89 = true := by kernel_rfl
theorem re_key : Tryz.prog.keyTypeAt 5 49 = true := by kernel_rfl
theorem ga_key : Tryz.prog.keyTypeAt 5 45 = true := by kernel_rfl
abbrev ptn (kd t o n : Int) : Array Value := #[.int .i64 kd, .int .i64 t, .int .i64 o, .int .u32 0, .int .u32 0, .int .u16 0, .int .u16 0, .int .u8 0, .int .i64 0, .int .i64 n]
theorem pt_1 (w : World) : (Op.equalIn 10000 89 (.agg (ptn 1 3 7 0)) (.agg (ptn 1 3 7 0))).run Tryz.prog w = .ok true w := eq_self pt_key _ (by kernel_rfl) (by kernel_rfl) w
theorem pt_2 (w : World) : (Op.equalIn 10000 89 (.agg (ptn 5 3 7 5)) (.agg (ptn 5 3 7 5))).run Tryz.prog w = .ok true w := eq_self pt_key _ (by kernel_rfl) (by kernel_rfl) w
theorem pt_3 (w : World) : (Op.equalIn 10000 89 (.agg (ptn 8 3 7 5)) (.agg (ptn 8 3 7 5))).run Tryz.prog w = .ok true w := eq_self pt_key _ (by kernel_rfl) (by kernel_rfl) w
theorem re_5 (w : World) : (Op.equalIn 10000 49 (.agg (rpc 0 0 5)) (.agg (rpc 0 0 5))).run Tryz.prog w = .ok true w := eq_self re_key _ (by kernel_rfl) (by kernel_rfl) w
theorem ga_5 (w : World) : (Op.equalIn 10000 45 (.agg (gtc 0 0 5)) (.agg (gtc 0 0 5))).run Tryz.prog w = .ok true w := eq_self ga_key _ (by kernel_rfl) (by kernel_rfl) w
theorem ga_0 (w : World) : (Op.equalIn 10000 45 (.agg (gtc 0 0 0)) (.agg (gtc 0 0 0))).run Tryz.prog w = .ok true w := eq_self ga_key _ (by kernel_rfl) (by kernel_rfl) w
/-- The states of awake. -/
abbrev c1 : Cf := ⟨1, 1, fun _ => 0⟩
abbrev s0 : Sh := ⟨MemM.newS 6 (((1 : Nat) : Int) + 1), [], setL (fun _ => []) 0 [], []⟩
abbrev q0 : Rn := { rz 3 7 with z := 5, at_ := .readClock }
def s1 : Sh := (stepA c1 s0 q0).1
def q1 : Rn := (stepA c1 s0 q0).2
def s2 : Sh := (stepA c1 s1 q1).1
def q2 : Rn := (stepA c1 s1 q1).2
theorem can_0 : canB s0 q0 = true := by decide
theorem can_1 : canB s1 q1 = true := by decide
theorem can_2 : canB s2 q2 = false := by decide
theorem same_2 : stepA c1 s2 q2 = (s2, q2) := by unfold stepA; rw [can_2]; rfl
theorem done_2 : doneV q2 = .tuple #[.agg (rpc 0 0 5), .bool true] := by rfl
theorem pts_2 : real s2.pts = [⟨1, 3, 7, k0, 0, 0⟩, ⟨5, 3, 7, k0, 0, 5⟩, ⟨8, 3, 7, k0, 0, 5⟩] := by rfl
theorem log_2 : s2.ms.ls = [⟨3, 3, 0⟩, ⟨3, 4, 0⟩] := by rfl
theorem gate_2 : vG (lookV s2.ms 0) = 0 ∧ kG (lookV s2.ms 0) = 0 ∧ cG (lookV s2.ms 0) = 5 := by decide
theorem cf_1 : CfOk c1 := ⟨by decide, by decide, by decide, fun _ => by show (-9223372036854775808 : Int) ≤ 0 ∧ (0 : Int) ≤ _; omega⟩
theorem wi_0 : Gi c1 s0 := ⟨MemM.newS_ok _ _, TabM.Oks.nil, by decide, by decide, fun f h => absurd h List.not_mem_nil, by decide⟩
theorem ri_0 : Ri c1 s0 q0 := (ri_beg cf_1 (by decide) s0 3 7 2 5 [] [] (by omega) (by omega)).1
theorem st_0 : Stp c1 s0 q0 s1 q1 := step_stp wi_0 ri_0 (by decide) (by decide)
theorem st_1 : Stp c1 s1 q1 s2 q2 := step_stp st_0.gi st_0.ri (by decide) (by decide)
theorem rm_0 : Rm 36 s0 := ⟨by decide, by decide, by decide, by decide⟩
theorem rm_1 : Rm 24 s1 := Rm.step (n := 24) rm_0
theorem rm_2 : Rm 12 s2 := Rm.step (n := 12) rm_1
/-- The literal of awake. -/
theorem lit_acs (w : World) : Me.Acs (w.alloc (.cells #[.int .i64 3, .int .i64 3, .int .i64 0, .int .i64 3, .int .i64 4, .int .i64 0] 92)) (w.heap.size + 1) (.slice (some ⟨w.heap.size, 0, none⟩) 2 2) s2.ms.ls := by
  rw [log_2]
  refine ⟨_, 2, rfl, Nat.le_refl _, by omega, rfl, fun _ => ⟨w.heap.size, 0, rfl, by omega, fun j u hu => ?_⟩⟩
  rw [Nat.zero_add, cell_of_row _ _ j _ _ (0, 0) (heap_alloc_new w _), List.getElem?_toArray]
  exact hu
set_option maxHeartbeats 4000000 in
theorem awake_any (w : World) (he : EnvL w) : Calls Tryz.prog 10 #[] w fun e w' => e = .returned (.bool true) ∧ Below w.heap.size w w' := by
  have HNEW : Hid (Calls Tryz.prog 7 #[.agg (Au.cfc ((1 : Nat) : Int) 1 (fun _ => 0)), .slice none 0 0] w fun e w' => ∃ B mb tb rm Om Ot K, e = .returned (.tuple #[ptr B, .int .i64 0]) ∧ SR (bs w c1 B mb tb rm) Om Ot K (.slice none 0 0) s0 w') :=
    new_ok he.au 1 1 (fun _ => 0) none 0 0 [] rfl (Rds.nil w _) (fun r h => absurd h List.not_mem_nil) (by decide) (by decide) (by omega)
  have HE := Lib.hid he
  clear he
  go_enter Tryz.func10, Tryz.ntmps10
  go_wp2_with fail
  go_at_call 7
  refine (HNEW.out).mono ?_
  rintro e w1 ⟨B, mb, tb, rm, Om, Ot, K, rfl, hs⟩
  have H1 : Hid (Lw (bs w c1 B mb tb rm) s0 [] [] (fun _ => False) w1) := Lw.of_sr hs
  clear hs HNEW
  go_wp2_with fail
  go_at_call 11
  refine (H1.out.begin_ 3 7 (by omega) 5 none 0 0 ByteArray.empty 2 HE.out.eb [] (Bts.empty _ _ _) (Nat.le_refl _) (by omega) (by decide)).mono ?_
  rintro e w2 ⟨g, rfl, hw, -⟩
  have H2 : Hid (Lw (bs w c1 B mb tb rm) s0 [g] [q0] (fun _ => False) w2) := hw
  clear hw H1
  go_wp2_with fail
  go_at_call 14
  refine (H2.out.step (k := 0) (g := g) rfl rfl (rm_0.mono (by omega)) (Ri.fit (C := c1) ri_0 cf_1) HE.out.eb.pg).mono ?_
  rintro e w3 ⟨he, hw, -⟩
  rw [can_0] at he
  subst he
  have H3 : Hid (Lw (bs w c1 B mb tb rm) s1 [g] [q1] (fun _ => False) w3) := hw
  clear hw H2
  go_wp2_with fail
  go_at_call 14
  refine (H3.out.step (k := 0) (g := g) rfl rfl (rm_1.mono (by omega)) (Ri.fit (C := c1) st_0.ri cf_1) HE.out.eb.pg).mono ?_
  rintro e w4 ⟨he, hw, -⟩
  rw [can_1] at he
  subst he
  have H4 : Hid (Lw (bs w c1 B mb tb rm) s2 [g] [q2] (fun _ => False) w4) := hw
  clear hw H3
  go_wp2_with fail
  go_at_call 14
  refine (H4.out.step (k := 0) (g := g) rfl rfl (rm_2) (Ri.fit (C := c1) st_1.ri cf_1) HE.out.eb.pg).mono ?_
  rintro e w5 ⟨he, hw, -⟩
  rw [can_2] at he
  rw [show (bs w c1 B mb tb rm).C = c1 from rfl, same_2] at hw
  subst he
  have H5 : Hid (Lw (bs w c1 B mb tb rm) s2 [g] [q2] (fun _ => False) w5) := hw
  clear hw H4
  go_wp2_with fail
  go_at_call 17
  refine (H5.out.done (k := 0) (g := g) rfl rfl).mono ?_
  rintro e w6 ⟨he, hb⟩
  rw [done_2] at he
  subst he
  have H6 := Lib.hid (H5.out.next hb)
  have H6b := Lib.hid (H6.out.next (below_box w6 (.cells (rpc 0 0 5) 49)))
  have HRP := Lib.hid (Blk.box w6 (rpc 0 0 5) 49)
  clear hb H5
  go_wp2_with fail
  obtain ⟨W6, hW6⟩ : ∃ V, w6.alloc (.cells #[.int .i64 0, .int .i64 0, .int .i64 5] 49) = V := ⟨_, rfl⟩
  rw [hW6] at H6b HRP ⊢
  obtain ⟨gr, hgr⟩ : ∃ x, w6.heap.size = x := ⟨_, rfl⟩
  rw [hgr] at HRP
  try rw [hgr]
  clear hW6 hgr H6
  have HPT := Lib.hid (H6b.out.points (by decide))
  rw [pts_2] at HPT
  go_at_call 19
  refine (HPT.out).mono ?_
  rintro e w7 ⟨A, c, rfl, hrow, hb⟩
  have H7 := Lib.hid (H6b.out.next hb)
  have HRP7 := Lib.hid (HRP.out.next hb)
  obtain ⟨gp, rfl⟩ : ∃ gp, A = some ⟨gp, 0, none⟩ := by
    rcases hrow.2 with ⟨e, h0⟩ | ⟨g, cap, cur, e, _⟩
    · simp at h0
    · injection e with e; exact ⟨g, e⟩
  have hcap : 3 ≤ c ∧ c ≤ 9223372036854775807 := by
    obtain ⟨A', c', e, h1, h2⟩ := row_form hrow
    injection e with _ _ e
    subst e
    exact ⟨h1, h2⟩
  obtain ⟨hc1, hc2⟩ := hcap
  clear hb H6b HRP HPT
  have p0 : w7.cell? ⟨gp, 0, none⟩ = some (.int .i64 1) := (hrow.cellAt 0 (by decide)).trans rfl
  have p1 : w7.cell? ⟨gp, 1, none⟩ = some (.int .i64 3) := (hrow.cellAt 1 (by decide)).trans rfl
  have p2 : w7.cell? ⟨gp, 2, none⟩ = some (.int .i64 7) := (hrow.cellAt 2 (by decide)).trans rfl
  have p3 : w7.cell? ⟨gp, 3, none⟩ = some (.int .u32 0) := (hrow.cellAt 3 (by decide)).trans rfl
  have p4 : w7.cell? ⟨gp, 4, none⟩ = some (.int .u32 0) := (hrow.cellAt 4 (by decide)).trans rfl
  have p5 : w7.cell? ⟨gp, 5, none⟩ = some (.int .u16 0) := (hrow.cellAt 5 (by decide)).trans rfl
  have p6 : w7.cell? ⟨gp, 6, none⟩ = some (.int .u16 0) := (hrow.cellAt 6 (by decide)).trans rfl
  have p7 : w7.cell? ⟨gp, 7, none⟩ = some (.int .u8 0) := (hrow.cellAt 7 (by decide)).trans rfl
  have p8 : w7.cell? ⟨gp, 8, none⟩ = some (.int .i64 0) := (hrow.cellAt 8 (by decide)).trans rfl
  have p9 : w7.cell? ⟨gp, 9, none⟩ = some (.int .i64 0) := (hrow.cellAt 9 (by decide)).trans rfl
  have p10 : w7.cell? ⟨gp, 10, none⟩ = some (.int .i64 5) := (hrow.cellAt 10 (by decide)).trans rfl
  have p11 : w7.cell? ⟨gp, 11, none⟩ = some (.int .i64 3) := (hrow.cellAt 11 (by decide)).trans rfl
  have p12 : w7.cell? ⟨gp, 12, none⟩ = some (.int .i64 7) := (hrow.cellAt 12 (by decide)).trans rfl
  have p13 : w7.cell? ⟨gp, 13, none⟩ = some (.int .u32 0) := (hrow.cellAt 13 (by decide)).trans rfl
  have p14 : w7.cell? ⟨gp, 14, none⟩ = some (.int .u32 0) := (hrow.cellAt 14 (by decide)).trans rfl
  have p15 : w7.cell? ⟨gp, 15, none⟩ = some (.int .u16 0) := (hrow.cellAt 15 (by decide)).trans rfl
  have p16 : w7.cell? ⟨gp, 16, none⟩ = some (.int .u16 0) := (hrow.cellAt 16 (by decide)).trans rfl
  have p17 : w7.cell? ⟨gp, 17, none⟩ = some (.int .u8 0) := (hrow.cellAt 17 (by decide)).trans rfl
  have p18 : w7.cell? ⟨gp, 18, none⟩ = some (.int .i64 0) := (hrow.cellAt 18 (by decide)).trans rfl
  have p19 : w7.cell? ⟨gp, 19, none⟩ = some (.int .i64 5) := (hrow.cellAt 19 (by decide)).trans rfl
  have p20 : w7.cell? ⟨gp, 20, none⟩ = some (.int .i64 8) := (hrow.cellAt 20 (by decide)).trans rfl
  have p21 : w7.cell? ⟨gp, 21, none⟩ = some (.int .i64 3) := (hrow.cellAt 21 (by decide)).trans rfl
  have p22 : w7.cell? ⟨gp, 22, none⟩ = some (.int .i64 7) := (hrow.cellAt 22 (by decide)).trans rfl
  have p23 : w7.cell? ⟨gp, 23, none⟩ = some (.int .u32 0) := (hrow.cellAt 23 (by decide)).trans rfl
  have p24 : w7.cell? ⟨gp, 24, none⟩ = some (.int .u32 0) := (hrow.cellAt 24 (by decide)).trans rfl
  have p25 : w7.cell? ⟨gp, 25, none⟩ = some (.int .u16 0) := (hrow.cellAt 25 (by decide)).trans rfl
  have p26 : w7.cell? ⟨gp, 26, none⟩ = some (.int .u16 0) := (hrow.cellAt 26 (by decide)).trans rfl
  have p27 : w7.cell? ⟨gp, 27, none⟩ = some (.int .u8 0) := (hrow.cellAt 27 (by decide)).trans rfl
  have p28 : w7.cell? ⟨gp, 28, none⟩ = some (.int .i64 0) := (hrow.cellAt 28 (by decide)).trans rfl
  have p29 : w7.cell? ⟨gp, 29, none⟩ = some (.int .i64 5) := (hrow.cellAt 29 (by decide)).trans rfl
  have y0 := HRP7.out.cell 0 _ rfl
  have y1 := HRP7.out.cell 1 _ rfl
  have y2 := HRP7.out.cell 2 _ rfl
  have e1 := pt_1
  have e2 := pt_2
  have e3 := pt_3
  have e4 := re_5
  clear hrow
  go_wp2_with fail
  go_at_call 20
  refine (H7.out.log (by decide)).mono ?_
  rintro e w8 ⟨v, rfl, h1, -, hb⟩
  obtain ⟨A2, c2, rfl, -, -⟩ := h1.len
  have H8 := Lib.hid (H7.out.next hb)
  have HL := Lib.hid h1
  clear h1 hb H7 HRP7 p0 p1 p2 p3 p4 p5 p6 p7 p8 p9 p10 p11 p12 p13 p14 p15 p16 p17 p18 p19 p20 p21 p22 p23 p24 p25 p26 p27 p28 p29 y0 y1 y2 e1 e2 e3 e4
  go_wp2_with fail
  have hb9 := below_box w8 (.cells #[.int .i64 3, .int .i64 3, .int .i64 0, .int .i64 3, .int .i64 4, .int .i64 0] 92)
  have HSM := Lib.hid (Me.same_true _ _ s2.ms.ls _ (HL.out.next hb9) ((lit_acs w8).more (by simp)))
  have H9 := Lib.hid (H8.out.next hb9)
  clear hb9 HL H8
  go_at_call 35
  refine (HSM.out).mono ?_
  rintro e w9 ⟨rfl, q, rfl⟩
  have H10 := Lib.hid (H9.out.next ((Below.refl _ _).drews q))
  clear HSM H9
  go_wp2_with fail
  have HGA := Lib.hid (H10.out.gate HE.out.eb.pg)
  rw [gate_2.1, gate_2.2.1, gate_2.2.2] at HGA
  have e5 := ga_5
  go_at_call 16
  refine (HGA.out).mono ?_
  rintro e w11 ⟨rfl, hb⟩
  have H11 := Lib.hid (H10.out.next hb)
  clear hb HGA H10
  go_wp2_with fail
  go_ret
  exact ⟨rfl, H11.out.bel⟩
end Pg
end Go.Proofs.YtcockldefmmhbaaGreatDoor
/- Layer 21: short; the walk of ProgNone. (Written by wip/tools/mkPrhH.py.) -/
set_option linter.unusedVariables false
set_option linter.unusedSimpArgs false
set_option maxRecDepth 100000
namespace Go.Proofs.YtcockldefmmhbaaGreatDoor
open Go.ChangeShapes Go.WideShapes Go.ChangeAt Go.RowKit Go.Mtl Go.Lib
namespace Pg
open MemM (Ms lookV loadS swapB swapS holdV lockB lockS unlockS touchS moreS)
open RulM (R)
open AutM (Ke)
open Me (ptr)
open Tb (TAt TM Fw)
/-- An op that is not too long. -/
def shortO (x : Ov) : Ov := { x with l := if 1600 < x.l then 1600 else x.l, bs := if 1600 < x.l then x.bs.take 1600 else x.bs, s := if 4200 < x.s.size then x.s.extract 0 4200 else x.s }
set_option maxHeartbeats 2000000 in
theorem short_any (x : Ov) (hx : x.Ok) (w : World) : Calls Tryz.prog 12 #[.agg (ovc x)] w fun e w' => e = .returned (.agg (ovc (shortO x))) ∧ Below w.heap.size w w' := by
  obtain ⟨kd, n, A, l, c, bs, s⟩ := x
  have hl : l ≤ c := hx.l
  have hc : c ≤ 9223372036854775807 := hx.c
  have hs : s.size ≤ 9223372036854775807 := hx.s
  clear hx
  unfold shortO ovc opc
  dsimp only
  by_cases h1 : 1600 < l
  · by_cases h2 : 4200 < s.size
    · have HB := Lib.hid ((below_box w (.cells #[.int .i64 kd, .int .i64 n, .slice A l c, .string s] 39)))
      rw [if_pos h1, if_pos h2]
      have d1 : decide ((l : Int) > 1600) = true := by simp; omega
      have d2 : decide ((s.size : Int) > 4200) = true := by simp; omega
      go_enter Tryz.func12, Tryz.ntmps12
      go_wp2_with fail
      have HR := Blk.box1 w (.cells #[.int .i64 kd, .int .i64 n, .slice A 1600 c, .string (s.extract 0 4200)] 39) #[.int .i64 kd, .int .i64 n, .slice A 1600 c, .string (s.extract 0 4200)] 39
      have r0 := HR.cell 0 _ rfl
      have r1 := HR.cell 1 _ rfl
      have r2 := HR.cell 2 _ rfl
      have r3 := HR.cell 3 _ rfl
      exact bodyPost_ret (v := .agg #[.int .i64 kd, .int .i64 n, .slice A 1600 c, .string (s.extract 0 4200)]) (by simp [results, Tryz.results12, go_sem, r0, r1, r2, r3]) rfl ⟨rfl, ((Below.refl _ w).alloc (Nat.le_refl _) (.cells #[.int .i64 kd, .int .i64 n, .slice A 1600 c, .string (s.extract 0 4200)] 39)).alloc (by simp) _⟩
    · have HB := Lib.hid ((below_box w (.cells #[.int .i64 kd, .int .i64 n, .slice A l c, .string s] 39)))
      rw [if_pos h1, if_neg h2]
      have d1 : decide ((l : Int) > 1600) = true := by simp; omega
      have d2 : decide ((s.size : Int) > 4200) = false := by simp; omega
      go_enter Tryz.func12, Tryz.ntmps12
      go_wp2_with fail
      have HR := Blk.box1 w (.cells #[.int .i64 kd, .int .i64 n, .slice A 1600 c, .string s] 39) #[.int .i64 kd, .int .i64 n, .slice A 1600 c, .string s] 39
      have r0 := HR.cell 0 _ rfl
      have r1 := HR.cell 1 _ rfl
      have r2 := HR.cell 2 _ rfl
      have r3 := HR.cell 3 _ rfl
      exact bodyPost_ret (v := .agg #[.int .i64 kd, .int .i64 n, .slice A 1600 c, .string s]) (by simp [results, Tryz.results12, go_sem, r0, r1, r2, r3]) rfl ⟨rfl, ((Below.refl _ w).alloc (Nat.le_refl _) (.cells #[.int .i64 kd, .int .i64 n, .slice A 1600 c, .string s] 39)).alloc (by simp) _⟩
  · by_cases h2 : 4200 < s.size
    · have HB := Lib.hid ((below_box w (.cells #[.int .i64 kd, .int .i64 n, .slice A l c, .string s] 39)))
      rw [if_neg h1, if_pos h2]
      have d1 : decide ((l : Int) > 1600) = false := by simp; omega
      have d2 : decide ((s.size : Int) > 4200) = true := by simp; omega
      go_enter Tryz.func12, Tryz.ntmps12
      go_wp2_with fail
      have HR := Blk.box1 w (.cells #[.int .i64 kd, .int .i64 n, .slice A l c, .string (s.extract 0 4200)] 39) #[.int .i64 kd, .int .i64 n, .slice A l c, .string (s.extract 0 4200)] 39
      have r0 := HR.cell 0 _ rfl
      have r1 := HR.cell 1 _ rfl
      have r2 := HR.cell 2 _ rfl
      have r3 := HR.cell 3 _ rfl
      exact bodyPost_ret (v := .agg #[.int .i64 kd, .int .i64 n, .slice A l c, .string (s.extract 0 4200)]) (by simp [results, Tryz.results12, go_sem, r0, r1, r2, r3]) rfl ⟨rfl, ((Below.refl _ w).alloc (Nat.le_refl _) (.cells #[.int .i64 kd, .int .i64 n, .slice A l c, .string (s.extract 0 4200)] 39)).alloc (by simp) _⟩
    · have HB := Lib.hid ((below_box w (.cells #[.int .i64 kd, .int .i64 n, .slice A l c, .string s] 39)))
      rw [if_neg h1, if_neg h2]
      have d1 : decide ((l : Int) > 1600) = false := by simp; omega
      have d2 : decide ((s.size : Int) > 4200) = false := by simp; omega
      go_enter Tryz.func12, Tryz.ntmps12
      go_wp2_with fail
      have HR := Blk.box1 w (.cells #[.int .i64 kd, .int .i64 n, .slice A l c, .string s] 39) #[.int .i64 kd, .int .i64 n, .slice A l c, .string s] 39
      have r0 := HR.cell 0 _ rfl
      have r1 := HR.cell 1 _ rfl
      have r2 := HR.cell 2 _ rfl
      have r3 := HR.cell 3 _ rfl
      exact bodyPost_ret (v := .agg #[.int .i64 kd, .int .i64 n, .slice A l c, .string s]) (by simp [results, Tryz.results12, go_sem, r0, r1, r2, r3]) rfl ⟨rfl, ((Below.refl _ w).alloc (Nat.le_refl _) (.cells #[.int .i64 kd, .int .i64 n, .slice A l c, .string s] 39)).alloc (by simp) _⟩
theorem op_size {x : Ov} : (Tryz.prog.info? 39).map (·.size) = some (#[.int .i64 x.kd, .int .i64 x.n, .slice x.A x.l x.c, .string x.s] : Array Value).size := (by kernel_rfl : (Tryz.prog.info? 39).map (·.size) = some 4)
set_option maxHeartbeats 4000000 in
theorem progNone_walk (x : Ov) (t v : Int) (w : World) (he : EnvL w) (h : x.Ok ∧ Bts w w.heap.size x.A x.l x.bs) (_ht : -9223372036854775808 ≤ t ∧ t ≤ 9223372036854775807) (_hv : -9223372036854775808 ≤ v ∧ v ≤ 9223372036854775807) : Calls Tryz.prog 5 #[.agg (ovc x), .int .i64 t, .int .i64 v] w fun e w' => e = .returned (.bool true) ∧ Below w.heap.size w w' := by
  obtain ⟨hx, hb⟩ := h
  by_cases ht0 : t < 0
  · have HSH := Lib.hid (short_any x hx)
    have HOK := Lib.hid hx
    have HBT := Lib.hid hb
    have HE := Lib.hid he
    have HX := Lib.hid (Blk.box w #[.int .i64 x.kd, .int .i64 x.n, .slice x.A x.l x.c, .string x.s] 39)
    have HB := Lib.hid (below_box w (.cells #[.int .i64 x.kd, .int .i64 x.n, .slice x.A x.l x.c, .string x.s] 39))
    have dt : decide (t < 0) = true := by simp; omega
    have HT : Hid (t < 0) := ht0
    clear hx hb he
    unfold ovc opc
    go_enter Tryz.func5, Tryz.ntmps5
    go_wp2_with (refine wpList_load_row rfl 39 (.tmp 3) rfl w.heap.size rfl _ #[.int .i64 x.kd, .int .i64 x.n, .slice x.A x.l x.c, .string x.s] _ _ HX.out Tryz.underlying39 rfl op_size ?_)
    go_at_call 12
    refine (HSH.out _).mono ?_
    rintro e w1 ⟨rfl, hb⟩
    have HX1 := Lib.hid (HX.out.next hb)
    have HB1 := Lib.hid (HB.out.trans (hb.mono HB.out.size))
    clear hb HX HB HSH
    unfold ovc opc
    go_wp2_with fail
    go_at_call 11
    refine (begin_nil _ t 0 (shortO x).kd (shortO x).n (shortO x).A (shortO x).l (shortO x).c (shortO x).s).mono ?_
    rintro e w2 ⟨rfl, hb⟩
    have HX2 := Lib.hid (HX1.out.next hb)
    have HB2 := Lib.hid (HB1.out.trans (hb.mono HB1.out.size))
    clear hb HX1 HB1
    go_wp2_with fail
    go_at_call 17
    refine (done_nil _).mono ?_
    rintro e w3 ⟨rfl, hb⟩
    have hb4 := hb.trans ((below_box w3 (.cells #[.int .i64 0, .int .i64 0, .int .i64 0] 49)).mono hb.size)
    have HX4 := Lib.hid (HX2.out.next hb4)
    have HB4 := Lib.hid (HB2.out.trans (hb4.mono HB2.out.size))
    clear hb hb4 HX2 HB2
    go_wp2_with fail
    generalize w3.alloc (.cells #[.int .i64 0, .int .i64 0, .int .i64 0] 49) = w4 at *
    try generalize w3.heap.size = gr at *
    have HE4 := Lib.hid (HE.out.below HB4.out)
    have HNEW : Hid (Calls Tryz.prog 7 #[.agg (Au.cfc ((1 : Nat) : Int) 1 (fun _ => 0)), .slice none 0 0] w4 fun e w' => ∃ B mb tb rm Om Ot K, e = .returned (.tuple #[ptr B, .int .i64 0]) ∧ SR (bs w4 c1 B mb tb rm) Om Ot K (.slice none 0 0) s0 w') :=
      new_ok HE4.out.au 1 1 (fun _ => 0) none 0 0 [] rfl (Rds.nil w4 _) (fun r h => absurd h List.not_mem_nil) (by decide) (by decide) (by omega)
    go_at_call 7
    refine (HNEW.out).mono ?_
    rintro e w5 ⟨B, mb, tb, rm, Om, Ot, K, rfl, hs⟩
    have H5 : Hid (Lw (bs w4 c1 B mb tb rm) s0 [] [] (fun _ => False) w5) := Lw.of_sr hs
    have HX5 := Lib.hid (HX4.out.only (Only.of_below (O := fun _ => False) (hs.bel)) (fun e => e))
    clear hs HNEW HX4
    go_wp2_with fail
    have HAW := Lib.hid (awake_any w5 (HE4.out.below H5.out.bel))
    go_at_call 10
    refine (HAW.out).mono ?_
    rintro e w6 ⟨rfl, hb⟩
    have H6 := Lib.hid (H5.out.next hb)
    have HX6 := Lib.hid (HX5.out.next hb)
    clear hb H5 HX5 HAW
    go_wp2_with fail
    go_at_call 14
    refine (step_nil _).mono ?_
    rintro e w7 ⟨rfl, rfl⟩
    go_wp2_with fail
    go_at_call 18
    refine (blocked_nil _).mono ?_
    rintro e w7 ⟨rfl, hb⟩
    have H7 := Lib.hid (H6.out.next hb)
    have HX7 := Lib.hid (HX6.out.next hb)
    clear hb H6 HX6
    go_wp2_with fail
    go_at_call 19
    refine (points_nil _).mono ?_
    rintro e w8 ⟨rfl, rfl⟩
    go_wp2_with fail
    go_at_call 20
    refine (log_nil _).mono ?_
    rintro e w8 ⟨rfl, rfl⟩
    go_wp2_with fail
    have e0 := ga_0
    go_at_call 16
    refine (gate_nil _).mono ?_
    rintro e w8 ⟨rfl, hb⟩
    have H8 := Lib.hid (H7.out.next hb)
    have HX8 := Lib.hid (HX7.out.next hb)
    clear hb H7 HX7
    go_wp2_with fail
    go_at_call 21
    refine (stat_nil v _).mono ?_
    rintro e w9 ⟨rfl, rfl⟩
    go_wp2_with fail
    have x0 := HX8.out.cell 0 _ rfl
    have x1 := HX8.out.cell 1 _ rfl
    have x2 := HX8.out.cell 2 _ rfl
    have x3 := HX8.out.cell 3 _ rfl
    go_at_call 15
    refine (keys_nil _).mono ?_
    rintro e w9 ⟨rfl, rfl⟩
    go_wp2_with fail
    obtain ⟨Om', Ot', K', pv', hsr, -, -⟩ := H8.out.ex
    have HBG := Lib.hid (begin_neg hsr t 0 x.kd x.n HT.out x.A x.l x.c x.s)
    clear hsr
    go_at_call 11
    refine (HBG.out).mono ?_
    rintro e w9 ⟨rfl, hb⟩
    have H9 := Lib.hid (H8.out.next hb)
    clear hb HBG
    go_wp2_with fail
    go_ret
    exact ⟨rfl, HB4.out.trans (H9.out.bel.mono HB4.out.size)⟩
  have ht0 : 0 ≤ t := by omega
  have HSH := Lib.hid (short_any x hx)
  have HOK := Lib.hid hx
  have HBT := Lib.hid hb
  have HE := Lib.hid he
  have HX := Lib.hid (Blk.box w #[.int .i64 x.kd, .int .i64 x.n, .slice x.A x.l x.c, .string x.s] 39)
  have HB := Lib.hid (below_box w (.cells #[.int .i64 x.kd, .int .i64 x.n, .slice x.A x.l x.c, .string x.s] 39))
  have dt : decide (t < 0) = false := by simp; omega
  have HT : Hid (0 ≤ t) := ht0
  clear hx hb he
  unfold ovc opc
  go_enter Tryz.func5, Tryz.ntmps5
  go_wp2_with (refine wpList_load_row rfl 39 (.tmp 3) rfl w.heap.size rfl _ #[.int .i64 x.kd, .int .i64 x.n, .slice x.A x.l x.c, .string x.s] _ _ HX.out Tryz.underlying39 rfl op_size ?_)
  go_at_call 12
  refine (HSH.out _).mono ?_
  rintro e w1 ⟨rfl, hb⟩
  have HX1 := Lib.hid (HX.out.next hb)
  have HB1 := Lib.hid (HB.out.trans (hb.mono HB.out.size))
  clear hb HX HB HSH
  unfold ovc opc
  go_wp2_with fail
  go_at_call 11
  refine (begin_nil _ t 0 (shortO x).kd (shortO x).n (shortO x).A (shortO x).l (shortO x).c (shortO x).s).mono ?_
  rintro e w2 ⟨rfl, hb⟩
  have HX2 := Lib.hid (HX1.out.next hb)
  have HB2 := Lib.hid (HB1.out.trans (hb.mono HB1.out.size))
  clear hb HX1 HB1
  go_wp2_with fail
  go_at_call 17
  refine (done_nil _).mono ?_
  rintro e w3 ⟨rfl, hb⟩
  have hb4 := hb.trans ((below_box w3 (.cells #[.int .i64 0, .int .i64 0, .int .i64 0] 49)).mono hb.size)
  have HX4 := Lib.hid (HX2.out.next hb4)
  have HB4 := Lib.hid (HB2.out.trans (hb4.mono HB2.out.size))
  clear hb hb4 HX2 HB2
  go_wp2_with fail
  generalize w3.alloc (.cells #[.int .i64 0, .int .i64 0, .int .i64 0] 49) = w4 at *
  try generalize w3.heap.size = gr at *
  have HE4 := Lib.hid (HE.out.below HB4.out)
  have HNEW : Hid (Calls Tryz.prog 7 #[.agg (Au.cfc ((1 : Nat) : Int) 1 (fun _ => 0)), .slice none 0 0] w4 fun e w' => ∃ B mb tb rm Om Ot K, e = .returned (.tuple #[ptr B, .int .i64 0]) ∧ SR (bs w4 c1 B mb tb rm) Om Ot K (.slice none 0 0) s0 w') :=
    new_ok HE4.out.au 1 1 (fun _ => 0) none 0 0 [] rfl (Rds.nil w4 _) (fun r h => absurd h List.not_mem_nil) (by decide) (by decide) (by omega)
  go_at_call 7
  refine (HNEW.out).mono ?_
  rintro e w5 ⟨B, mb, tb, rm, Om, Ot, K, rfl, hs⟩
  have H5 : Hid (Lw (bs w4 c1 B mb tb rm) s0 [] [] (fun _ => False) w5) := Lw.of_sr hs
  have HX5 := Lib.hid (HX4.out.only (Only.of_below (O := fun _ => False) (hs.bel)) (fun e => e))
  clear hs HNEW HX4
  go_wp2_with fail
  have HAW := Lib.hid (awake_any w5 (HE4.out.below H5.out.bel))
  go_at_call 10
  refine (HAW.out).mono ?_
  rintro e w6 ⟨rfl, hb⟩
  have H6 := Lib.hid (H5.out.next hb)
  have HX6 := Lib.hid (HX5.out.next hb)
  clear hb H5 HX5 HAW
  go_wp2_with fail
  go_at_call 14
  refine (step_nil _).mono ?_
  rintro e w7 ⟨rfl, rfl⟩
  go_wp2_with fail
  go_at_call 18
  refine (blocked_nil _).mono ?_
  rintro e w7 ⟨rfl, hb⟩
  have H7 := Lib.hid (H6.out.next hb)
  have HX7 := Lib.hid (HX6.out.next hb)
  clear hb H6 HX6
  go_wp2_with fail
  go_at_call 19
  refine (points_nil _).mono ?_
  rintro e w8 ⟨rfl, rfl⟩
  go_wp2_with fail
  go_at_call 20
  refine (log_nil _).mono ?_
  rintro e w8 ⟨rfl, rfl⟩
  go_wp2_with fail
  have e0 := ga_0
  go_at_call 16
  refine (gate_nil _).mono ?_
  rintro e w8 ⟨rfl, hb⟩
  have H8 := Lib.hid (H7.out.next hb)
  have HX8 := Lib.hid (HX7.out.next hb)
  clear hb H7 HX7
  go_wp2_with fail
  go_at_call 21
  refine (stat_nil v _).mono ?_
  rintro e w9 ⟨rfl, rfl⟩
  go_wp2_with fail
  have x0 := HX8.out.cell 0 _ rfl
  have x1 := HX8.out.cell 1 _ rfl
  have x2 := HX8.out.cell 2 _ rfl
  have x3 := HX8.out.cell 3 _ rfl
  go_at_call 15
  refine (keys_nil _).mono ?_
  rintro e w9 ⟨rfl, rfl⟩
  go_wp2_with fail
  go_at_call 11
  refine (H8.out.begin_ t 0 HT.out x.n x.A x.l x.c x.s x.kd HE4.out.eb x.bs ((HBT.out.below HB4.out).more HB4.out.size |>.below H8.out.bel |>.more H8.out.size) HOK.out.l HOK.out.c HOK.out.s).mono ?_
  rintro e w9 ⟨g, rfl, hw, -⟩
  have H9 := Lib.hid hw
  clear hw
  go_wp2_with fail
  go_ret
  exact ⟨rfl, HB4.out.trans (H9.out.bel.mono HB4.out.size)⟩
end Pg
end Go.Proofs.YtcockldefmmhbaaGreatDoor
