/- Several texts of this proof in one file, each in its own namespace. -/
import Derived.Test.YtcjppfggllbbeaaGreatDoorJ19
import Derived.Test.YtcjppfggllbbeaaGreatDoorJ22
import Derived.Test.YtcjppfggllbbeaaGreatDoorFsmB
import Derived.Test.YtcjppfggllbbeaaGreatDoorJ4
import Derived.Test.YtcjppfggllbbeaaGreatDoorJ24
/- Layer 18: the contracts of until and follow. (Written by wip/tools/mkAutD.py.) -/
set_option linter.unusedVariables false
set_option linter.unusedSimpArgs false
set_option maxRecDepth 100000
namespace Go.Proofs.YtcjppfggllbbeaaGreatDoor
open Go.ChangeShapes Go.WideShapes Go.ChangeAt Go.RowKit Go.Mtl Go.Lib
namespace Au
open AutM
open RulM (R)
open MatM (K)

/-- The timeouts as a value. -/
abbrev sx (T : Nat → Int) : Array Value := #[.int .i64 (T 0), .int .i64 (T 1), .int .i64 (T 2), .int .i64 (T 3), .int .i64 (T 4), .int .i64 (T 5), .int .i64 (T 6), .int .i64 (T 7), .int .i64 (T 8), .int .i64 (T 9), .int .i64 (T 10), .int .i64 (T 11), .int .i64 (T 12), .int .i64 (T 13), .int .i64 (T 14), .int .i64 (T 15)]
theorem six {T : Nat → Int} (h : ∀ i, -9223372036854775808 ≤ T i ∧ T i ≤ 9223372036854775807) : Fs.Six (sx T) T where
  size := rfl
  cell := fun i hi => by
    obtain rfl | rfl | rfl | rfl | rfl | rfl | rfl | rfl | rfl | rfl | rfl | rfl | rfl | rfl | rfl | rfl : i = 0 ∨ i = 1 ∨ i = 2 ∨ i = 3 ∨ i = 4 ∨ i = 5 ∨ i = 6 ∨ i = 7 ∨ i = 8 ∨ i = 9 ∨ i = 10 ∨ i = 11 ∨ i = 12 ∨ i = 13 ∨ i = 14 ∨ i = 15 := by omega
    all_goals rfl
  fit := fun i _ => h i
theorem Raw.sixteen {w : World} {O : Nat → Prop} {B M : Nat} {N : Int} {T : Nat → Int} {x : Int} {li : Value} {rl : List R} {fs : List Fl} {t : Nat → Int} (H : Raw w O B M N T x li rl fs t) :
    ∀ i, i < 16 → w.cell? ⟨B, 1 + i, none⟩ = some (.int .i64 (T i)) := by
  intro i hi
  obtain rfl | rfl | rfl | rfl | rfl | rfl | rfl | rfl | rfl | rfl | rfl | rfl | rfl | rfl | rfl | rfl : i = 0 ∨ i = 1 ∨ i = 2 ∨ i = 3 ∨ i = 4 ∨ i = 5 ∨ i = 6 ∨ i = 7 ∨ i = 8 ∨ i = 9 ∨ i = 10 ∨ i = 11 ∨ i = 12 ∨ i = 13 ∨ i = 14 ∨ i = 15 := by omega
  all_goals exact H.at_ _ _ rfl

/-- The firewall and what was there before. -/
structure RQ (w0 : World) (O : Nat → Prop) (B M : Nat) (N : Int) (T : Nat → Int) (x : Int) (li : Value) (rl : List R) (fs : List Fl) (t : Nat → Int) (w : World) : Prop where
  raw : Raw w O B M N T x li rl fs t
  bel : Below w0.heap.size w0 w
theorem RQ.next {w0 w w' : World} {O : Nat → Prop} {B M : Nat} {N : Int} {T : Nat → Int} {x : Int} {li : Value} {rl : List R} {fs : List Fl} {t : Nat → Int} (H : RQ w0 O B M N T x li rl fs t w) (hb : Below w.heap.size w w') : RQ w0 O B M N T x li rl fs t w' := ⟨H.raw.next hb, H.bel.trans (hb.mono H.bel.size)⟩

set_option maxHeartbeats 4000000 in
theorem until_any {w : World} {O : Nat → Prop} {B M : Nat} {N : Int} {T : Nat → Int} {c g v : Int} {li : Value} {rl : List R} {fs : List Fl} {t : Nat → Int} (H : Raw w O B M N T (GatM.gI c g v) li rl fs t) (he : Env w) (hf : GatM.Fit c g v) (htm : ∀ i, -9223372036854775808 ≤ T i ∧ T i ≤ 9223372036854775807) (s : Int) :
    Calls Tryz.prog 84 #[ptr B, .int .i64 s] w fun e w' => e = .returned (.int .i64 (Fs.untN T s c)) ∧ Below w.heap.size w w' := by
  obtain ⟨x, hx⟩ : ∃ x, x = GatM.gI c g v := ⟨_, rfl⟩
  have HG0 : Hid (∀ W, Raw W O B M N T x li rl fs t → Env W → Calls Tryz.prog 22 #[ptr B] W fun e w' => e = .returned (.agg (Ga.gtc v g c)) ∧ Below W.heap.size W w') := fun W h e => gate_any (hx ▸ h) hf e
  have HU : Hid (∀ W, Calls Tryz.prog 126 #[.agg (sx T), .int .i64 s, .int .i64 c] W fun e w' => e = .returned (.int .i64 (Fs.untN T s c)) ∧ Below W.heap.size W w') := fun W => Fs.until_any (sx T) T (six htm) s c W
  rw [← hx] at H
  have HE := Lib.hid he
  have HQ : Hid (RQ w O B M N T x li rl fs t w) := ⟨H, Below.refl _ _⟩
  generalize Fs.untN T s c = u at HU
  clear H he hf htm hx
  go_enter Tryz.func84, Tryz.ntmps84
  go_wp2_with fail
  refine wp_region_held_drew (S := fun w' => RQ w O B M N T x li rl fs t w') (by kernel_rfl) (HQ.out.next (Below.refl _ w).drew) (fun hH => ?_)
  refine wpAnyH_take (i := 0) (oi := ⟨some 5, _, _, _, _, _⟩) (v := ?v1) rfl (by kernel_rfl) (by kernel_rfl) (by kernel_rfl) (fun _ _ _ h => h) (Or.inl ⟨rfl, ?c1⟩) hH ?r1
  case c1 => (intro w' _; go_simp; (try with_reducible rfl))
  try simp only [Act.put, List.setIfInBounds_toArray, List.set_cons_zero, List.set_cons_succ]
  refine wpAnyH_take (i := 1) (oi := ⟨some 6, _, _, _, _, _⟩) (v := ?v2) rfl (by kernel_rfl) (by kernel_rfl) (by kernel_rfl) (fun _ _ _ h => h) (Or.inl ⟨rfl, ?c2⟩) hH ?r2
  case c2 => (intro w' _; go_simp; (try with_reducible rfl))
  try simp only [Act.put, List.setIfInBounds_toArray, List.set_cons_zero, List.set_cons_succ]
  refine wpAnyH_take (i := 2) (oi := ⟨some 7, _, _, _, _, _⟩) (v := ?v3) rfl (by kernel_rfl) (by kernel_rfl) (by kernel_rfl) (fun _ _ _ h => h) (Or.inl ⟨rfl, ?c3⟩) hH ?r3
  case c3 => (intro w' _; go_simp; (try with_reducible rfl))
  try simp only [Act.put, List.setIfInBounds_toArray, List.set_cons_zero, List.set_cons_succ]
  refine wpAnyH_take (i := 3) (oi := ⟨some 8, _, _, _, _, _⟩) (v := ?v4) rfl (by kernel_rfl) (by kernel_rfl) (by kernel_rfl) (fun _ _ _ h => h) (Or.inl ⟨rfl, ?c4⟩) hH ?r4
  case c4 => (intro w' hS; have t0 := hS.raw.at_ 1 _ rfl; have t1 := hS.raw.at_ 2 _ rfl; have t2 := hS.raw.at_ 3 _ rfl; have t3 := hS.raw.at_ 4 _ rfl; have t4 := hS.raw.at_ 5 _ rfl; have t5 := hS.raw.at_ 6 _ rfl; have t6 := hS.raw.at_ 7 _ rfl; have t7 := hS.raw.at_ 8 _ rfl; have t8 := hS.raw.at_ 9 _ rfl; have t9 := hS.raw.at_ 10 _ rfl; have t10 := hS.raw.at_ 11 _ rfl; have t11 := hS.raw.at_ 12 _ rfl; have t12 := hS.raw.at_ 13 _ rfl; have t13 := hS.raw.at_ 14 _ rfl; have t14 := hS.raw.at_ 15 _ rfl; have t15 := hS.raw.at_ 16 _ rfl; go_simp; (try with_reducible rfl))
  try simp only [Act.put, List.setIfInBounds_toArray, List.set_cons_zero, List.set_cons_succ]
  refine wpAnyH_take (i := 4) (oi := ⟨some 9, _, _, _, _, _⟩) (v := ?v5) rfl (by kernel_rfl) (by kernel_rfl) (by kernel_rfl) (fun _ _ _ h => h) (Or.inl ⟨rfl, ?c5⟩) hH ?r5
  case c5 => (intro w' _; go_simp; (try with_reducible rfl))
  try simp only [Act.put, List.setIfInBounds_toArray, List.set_cons_zero, List.set_cons_succ]
  refine wpAnyH_take (i := 5) (oi := ⟨some 10, _, _, _, _, _⟩) (v := ?v6) rfl (by kernel_rfl) (by kernel_rfl) (by kernel_rfl) (fun _ _ _ h => h) (Or.inl ⟨rfl, ?c6⟩) hH ?r6
  case c6 => (intro w' _; go_simp; (try with_reducible rfl))
  try simp only [Act.put, List.setIfInBounds_toArray, List.set_cons_zero, List.set_cons_succ]
  refine wpAnyH_ready (rs := [6]) (by kernel_rfl) (by simp) (AllReadyH.cons rfl (fun K hK => ?_) (AllReadyH.nil))
  go_simp
  go_at_call 22
  refine (HG0.out _ hH.raw (HE.out.below hH.bel)).mono ?_
  rintro e w1 ⟨rfl, hbp⟩
  refine hK.out _ _ (hH.next hbp) (fun hH => ?_)
  clear hK K
  clear hbp
  try simp only [Act.put, List.setIfInBounds_toArray, List.set_cons_zero, List.set_cons_succ]
  refine wpAnyH_take (i := 7) (oi := ⟨some 12, _, _, _, _, _⟩) (v := ?v7) rfl (by kernel_rfl) (by kernel_rfl) (by kernel_rfl) (fun _ _ _ h => h) (Or.inl ⟨rfl, ?c7⟩) hH ?r7
  case c7 => (intro w' hS; go_simp; rw [Ga.field2]; simp only [Result.andThen_ok]; (try with_reducible rfl))
  try simp only [Act.put, List.setIfInBounds_toArray, List.set_cons_zero, List.set_cons_succ]
  refine wpAnyH_ready (rs := [8]) (by kernel_rfl) (by simp) (AllReadyH.cons rfl (fun K hK => ?_) (AllReadyH.nil))
  go_simp
  go_at_call 126
  refine (HU.out _).mono ?_
  rintro e w2 ⟨rfl, hbp⟩
  refine hK.out _ _ (hH.next hbp) (fun hH => ?_)
  clear hK K
  clear hbp
  try simp only [Act.put, List.setIfInBounds_toArray, List.set_cons_zero, List.set_cons_succ]
  refine wpAnyH_take (i := 9) (oi := ⟨some 4, _, _, _, _, _⟩) (v := ?v8) rfl (by kernel_rfl) (by kernel_rfl) (by kernel_rfl) (fun _ _ _ h => h) (Or.inl ⟨rfl, ?c8⟩) hH ?r8
  case c8 => (intro w' _; go_simp; (try with_reducible rfl))
  try simp only [Act.put, List.setIfInBounds_toArray, List.set_cons_zero, List.set_cons_succ]
  refine wpAnyH_done (by kernel_rfl) ?_ _
  go_wp2_with fail
  go_ret
  exact ⟨rfl, hH.bel⟩
end Au
end Go.Proofs.YtcjppfggllbbeaaGreatDoor
/- Layer 18: the contracts of follow. (Written by wip/tools/mkAutD.py.) -/
set_option linter.unusedVariables false
set_option linter.unusedSimpArgs false
set_option maxRecDepth 100000
namespace Go.Proofs.YtcjppfggllbbeaaGreatDoor
open Go.ChangeShapes Go.WideShapes Go.ChangeAt Go.RowKit Go.Mtl Go.Lib
namespace Au
open AutM
open RulM (R)
open MatM (K)


/-- The firewall, three blocks of the call's own (a key, an entry, a packet), what was there before. -/
structure FQ (w0 : World) (O : Nat → Prop) (B M : Nat) (N : Int) (T : Nat → Int) (x : Int) (li : Value) (rl : List R) (fs : List Fl) (t : Nat → Int) (k : Ke) (y : Int) (d : Bool) (p : K) (w : World) : Prop where
  raw : Raw w O B M N T x li rl fs t
  key : Blk w w0.heap.size (Ky.kyc k.a k.b k.p k.q k.r) 45
  ent : Blk w (w0.heap.size + 1) #[.int .u64 y, .bool d] 101
  pck : Blk w (w0.heap.size + 2) (Ma.pK p) 41
  bel : Below w0.heap.size w0 w
theorem FQ.next {w0 w w' : World} {O : Nat → Prop} {B M : Nat} {N : Int} {T : Nat → Int} {x : Int} {li : Value} {rl : List R} {fs : List Fl} {t : Nat → Int} {k : Ke} {y : Int} {d : Bool} {p : K} (H : FQ w0 O B M N T x li rl fs t k y d p w) (hb : Below w.heap.size w w') : FQ w0 O B M N T x li rl fs t k y d p w' :=
  ⟨H.raw.next hb, H.key.next hb, H.ent.next hb, H.pck.next hb, H.bel.trans (hb.mono H.bel.size)⟩
theorem FQ.start {w : World} {O : Nat → Prop} {B M : Nat} {N : Int} {T : Nat → Int} {x : Int} {li : Value} {rl : List R} {fs : List Fl} {t : Nat → Int} (H : Raw w O B M N T x li rl fs t) (k : Ke) (y : Int) (d : Bool) (p : K) :
    FQ w O B M N T x li rl fs t k y d p (((w.alloc (.cells (Ky.kyc k.a k.b k.p k.q k.r) 45)).alloc (.cells #[.int .u64 y, .bool d] 101)).alloc (.cells (Ma.pK p) 41)) :=
  ⟨((H.alloc _).alloc _).alloc _, ((Blk.box _ _ _).alloc _).alloc _, (Blk.box1 _ _ _ _).alloc _, Blk.box2 _ _ _ _ _, ((below_box w _).alloc (by simp) _).alloc (by simp; omega) _⟩

set_option maxHeartbeats 1000000 in
theorem follow_yes {w : World} {O : Nat → Prop} {B M : Nat} {N : Int} {T : Nat → Int} {c g v : Int} {li : Value} {rl : List R} {fs : List Fl} {t : Nat → Int} (H : Raw w O B M N T (GatM.gI c g v) li rl fs t) (he : Env w) (hf : GatM.Fit c g v) (htm : ∀ i, -9223372036854775808 ≤ T i ∧ T i ≤ 9223372036854775807) (ok : Oks fs) (f : Fl) (hk : find f.k fs = some f) (dn : Bool) (p : K) (hp : p.Ok)
    (nx u : Int) (hnx : Fs.neN f.s (dn != f.dn) (p.pr : Int) (p.fl : Int) (p.kd : Int) = nx) (hok : Fs.neB f.s (dn != f.dn) (p.pr : Int) (p.fl : Int) (p.kd : Int) = true) (hu : Fs.untN T nx c = u) (f' : Fl) (hf' : f' = { f with c := Fl.clip (u), n := Fl.up f.n, s := (nx) % 16 }) :
    Calls Tryz.prog 50 #[ptr B, kyV f.k, enV f, .bool dn, .agg (Ma.pK p)] w fun e w' => e = .returned (.int .i64 1) ∧ Raw w' O B M N T (GatM.gI c g v) li rl (put f' fs) t ∧ Only O w w' := by
  obtain ⟨x, hx⟩ : ∃ x, x = GatM.gI c g v := ⟨_, rfl⟩
  obtain ⟨y, hy⟩ : ∃ y, y = FloM.gI f.c f.n f.s := ⟨_, rfl⟩
  obtain ⟨d, hd⟩ : ∃ d, d = f.dn := ⟨_, rfl⟩
  have hm := (find_some hk).1
  have hft := (ok.ok f hm).fit
  have hf2 : f.k = f'.k := by rw [hf']
  have HUN : Hid (∀ W, Raw W O B M N T x li rl fs t → Env W → Calls Tryz.prog 84 #[ptr B, .int .i64 nx] W fun e w' => e = .returned (.int .i64 (Fs.untN T nx c)) ∧ Below W.heap.size W w') := fun W h e => until_any (hx ▸ h) e hf htm nx
  have HNX : Hid (∀ W, Calls Tryz.prog 83 #[.int .i64 f.s, .bool (dn != d), .agg (Ma.pK p)] W fun e w' => e = .returned (.tuple #[.int .i64 nx, .bool true]) ∧ Below W.heap.size W w') := fun W => by
    have h := Fs.next_any f.s (dn != f.dn) (p.pr : Int) (p.sr : Int) (p.ds : Int) (p.sp : Int) (p.dp : Int) (p.fl : Int) (p.kd : Int) (by have := hft.v0; have := hft.v1; omega) (by have := hp.fl; omega) W
    rw [hnx, hok] at h
    rw [hd]; exact h
  have HUP : Hid (∀ W, Env W → Calls Tryz.prog 41 #[.int .u64 y] W fun e w' => e = .returned (.agg (Fl.gtc f.s f.n f.c)) ∧ Below W.heap.size W w') := fun W e => by rw [hy]; exact Fl.unpack_any hft W e.fl
  have HNE : Hid (∀ W, Env W → Calls Tryz.prog 85 #[.int .u64 y, .int .i64 (nx), .int .i64 (u)] W fun e w' => e = .returned (.int .u64 (FloM.gI f'.c f'.n f'.s)) ∧ Below W.heap.size W w') := fun W e => by
    rw [hy, hf']; exact Ga.quiet_below (Fl.next_any hft _ _ W e.fl)
  have HPU : Hid (∀ w1 y', y' = FloM.gI f'.c f'.n f'.s → MapAt w1 M fs → ∃ w', (Instr.mapUpdate 74 (.map (some M)) (kyV f.k) (enW y' d)).run Tryz.prog w1 = .ok () w' ∧ MapAt w' M (put f' fs) ∧ Only (· = M) w1 w') := fun w1 y' hy' h => by
    have h2 := run_put h ok (g := f') (f := f) (by rw [← hf2]; exact hk)
    have e : enW y' d = enV f' := by rw [hy', hd, hf']
    rw [e, hf2]
    exact h2
  obtain ⟨y', hy'⟩ : ∃ y', y' = FloM.gI f'.c f'.n f'.s := ⟨_, rfl⟩
  rw [← hy'] at HNE
  have HPU2 := Lib.hid (fun w1 => HPU.out w1 y' hy')
  have HDX : Hid (GatM.gI c g v = x) := hx.symm
  have HL := Lib.hid H.lt
  have HOM := Lib.hid H.om
  rw [← hx] at H
  have HE := Lib.hid he
  have HQ := Lib.hid (FQ.start H f.k y d p)
  have HENV : enV f = .agg #[.int .u64 y, .bool d] := by rw [hy, hd]
  rw [HENV, hx.symm]
  clear HENV
  clear H he hf htm hx hy hd ok hk hm hft hnx hok hf' hf2 hy' HPU hp
  generalize f.k = k at *
  generalize f.s = s0 at *
  generalize f.n = n0 at *
  generalize f.c = c0 at *
  rw [hu] at HUN
  clear hu
  go_enter Tryz.func50, Tryz.ntmps50
  go_wp2_with fail
  obtain ⟨WZ, hWZ⟩ : ∃ v, v = ((w.alloc (.cells (Ky.kyc k.a k.b k.p k.q k.r) 45)).alloc (.cells #[.int .u64 y, .bool d] 101)).alloc (.cells (Ma.pK p) 41) := ⟨_, rfl⟩
  rw [← hWZ] at HQ
  simp only [← hWZ]
  clear hWZ
  have e0 := HQ.out.ent.cell 0 _ rfl
  go_wp2_with fail
  go_at_call 41
  refine (HUP.out _ (HE.out.below HQ.out.bel)).mono ?_
  rintro e w1 ⟨rfl, hb⟩
  have HQ1 := Lib.hid ((HQ.out.next hb).next (below_box w1 (.cells (Fl.gtc s0 n0 c0) 50)))
  have HF := Lib.hid (Blk.box w1 (Fl.gtc s0 n0 c0) 50)
  clear hb e0 HQ
  go_wp2_with fail
  obtain ⟨g11, hg⟩ : ∃ g, g = w1.heap.size := ⟨_, rfl⟩
  obtain ⟨WF, hWF⟩ : ∃ v, v = w1.alloc (.cells (Fl.gtc s0 n0 c0) 50) := ⟨_, rfl⟩
  simp only [← hg, ← hWF] at *
  clear hg hWF
  refine wp_region_held_drew (S := fun w' => FQ w O B M N T x li rl fs t k y d p w' ∧ Blk w' g11 (Fl.gtc s0 n0 c0) 50) (by kernel_rfl) (⟨HQ1.out.next (Below.refl _ WF).drew, HF.out.drew⟩) (fun hH => ?_)
  refine wpAnyH_take (i := 0) (oi := ⟨some 20, _, _, _, _, _⟩) (v := ?v1) rfl (by kernel_rfl) (by kernel_rfl) (by kernel_rfl) (fun _ _ _ h => h) (Or.inl ⟨rfl, ?c1⟩) hH ?r1
  case c1 => (intro w' _; go_simp; (try with_reducible rfl))
  try simp only [Act.put, List.setIfInBounds_toArray, List.set_cons_zero, List.set_cons_succ]
  refine wpAnyH_take (i := 1) (oi := ⟨some 21, _, _, _, _, _⟩) (v := ?v2) rfl (by kernel_rfl) (by kernel_rfl) (by kernel_rfl) (fun _ _ _ h => h) (Or.inl ⟨rfl, ?c2⟩) hH ?r2
  case c2 => (intro w' hS; obtain ⟨z0, z1, z2⟩ := Fl.gt_cells hS.2; go_simp; (try with_reducible rfl))
  try simp only [Act.put, List.setIfInBounds_toArray, List.set_cons_zero, List.set_cons_succ]
  refine wpAnyH_take (i := 2) (oi := ⟨some 22, _, _, _, _, _⟩) (v := ?v3) rfl (by kernel_rfl) (by kernel_rfl) (by kernel_rfl) (fun _ _ _ h => h) (Or.inl ⟨rfl, ?c3⟩) hH ?r3
  case c3 => (intro w' _; go_simp; (try with_reducible rfl))
  try simp only [Act.put, List.setIfInBounds_toArray, List.set_cons_zero, List.set_cons_succ]
  refine wpAnyH_take (i := 3) (oi := ⟨some 23, _, _, _, _, _⟩) (v := ?v4) rfl (by kernel_rfl) (by kernel_rfl) (by kernel_rfl) (fun _ _ _ h => h) (Or.inl ⟨rfl, ?c4⟩) hH ?r4
  case c4 => (intro w' hS; obtain ⟨z0, z1, z2⟩ := Fl.gt_cells hS.2; go_simp; (try with_reducible rfl))
  try simp only [Act.put, List.setIfInBounds_toArray, List.set_cons_zero, List.set_cons_succ]
  refine wpAnyH_take (i := 4) (oi := ⟨some 12, _, _, _, _, _⟩) (v := ?v5) rfl (by kernel_rfl) (by kernel_rfl) (by kernel_rfl) (fun _ _ _ h => h) (Or.inl ⟨rfl, ?c5⟩) hH ?r5
  case c5 => (intro w' _; go_simp; (try with_reducible rfl))
  try simp only [Act.put, List.setIfInBounds_toArray, List.set_cons_zero, List.set_cons_succ]
  refine wpAnyH_take (i := 5) (oi := ⟨some 13, _, _, _, _, _⟩) (v := ?v6) rfl (by kernel_rfl) (by kernel_rfl) (by kernel_rfl) (fun _ _ _ h => h) (Or.inl ⟨rfl, ?c6⟩) hH ?r6
  case c6 => (intro w' _; go_simp; (try with_reducible rfl))
  try simp only [Act.put, List.setIfInBounds_toArray, List.set_cons_zero, List.set_cons_succ]
  refine wpAnyH_take (i := 6) (oi := ⟨some 14, _, _, _, _, _⟩) (v := ?v7) rfl (by kernel_rfl) (by kernel_rfl) (by kernel_rfl) (fun _ _ _ h => h) (Or.inl ⟨rfl, ?c7⟩) hH ?r7
  case c7 => (intro w' _; go_simp; (try with_reducible rfl))
  try simp only [Act.put, List.setIfInBounds_toArray, List.set_cons_zero, List.set_cons_succ]
  refine wpAnyH_done (by kernel_rfl) ?_ _
  
  have HQ2 := Lib.hid hH.1
  have HF2 := Lib.hid hH.2
  obtain ⟨z0, z1, z2⟩ := Fl.gt_cells HF2.out
  have e0 := HQ2.out.ent.cell 0 _ rfl
  have e1 := HQ2.out.ent.cell 1 _ rfl
  obtain ⟨p0, p1, p2, p3, p4, p5, p6⟩ := Fs.pk_cells HQ2.out.pck
  clear hH
  go_wp2_with fail
  go_at_call 83
  refine (HNX.out _).mono ?_
  rintro e w2 ⟨rfl, hb⟩
  have HQ3 := Lib.hid (HQ2.out.next hb)
  clear hb e0 e1 p0 p1 p2 p3 p4 p5 p6 z0 z1 z2
  go_wp2_with fail
  go_at_call 84
  refine (HUN.out _ HQ3.out.raw (HE.out.below HQ3.out.bel)).mono ?_
  rintro e w3 ⟨rfl, hb⟩
  replace HQ3 := Lib.hid (HQ3.out.next hb)
  clear hb
  go_wp2_with fail
  obtain ⟨WG, hWG⟩ : ∃ v, v = w3 := ⟨_, rfl⟩
  rw [← hWG] at HQ3
  simp only [← hWG]
  clear hWG
  refine wp_region_held_drew (S := fun w' => w'.cell? ⟨B, 19, none⟩ = some (.map (some M)) ∧ Blk w' w.heap.size (Ky.kyc k.a k.b k.p k.q k.r) 45 ∧ Blk w' (w.heap.size + 1) #[.int .u64 y, .bool d] 101) (by kernel_rfl) (⟨HQ3.out.raw.drew.at_ 19 _ rfl, HQ3.out.key.drew, HQ3.out.ent.drew⟩) (fun hH => ?_)
  refine wpAnyH_take (i := 0) (oi := ⟨some 40, _, _, _, _, _⟩) (v := ?v101) rfl (by kernel_rfl) (by kernel_rfl) (by kernel_rfl) (fun _ _ _ h => h) (Or.inl ⟨rfl, ?c101⟩) hH ?r101
  case c101 => (intro w' _; go_simp; (try with_reducible rfl))
  try simp only [Act.put, List.setIfInBounds_toArray, List.set_cons_zero, List.set_cons_succ]
  refine wpAnyH_take (i := 1) (oi := ⟨some 41, _, _, _, _, _⟩) (v := ?v102) rfl (by kernel_rfl) (by kernel_rfl) (by kernel_rfl) (fun _ _ _ h => h) (Or.inl ⟨rfl, ?c102⟩) hH ?r102
  case c102 => (intro w' _; go_simp; (try with_reducible rfl))
  try simp only [Act.put, List.setIfInBounds_toArray, List.set_cons_zero, List.set_cons_succ]
  refine wpAnyH_take (i := 2) (oi := ⟨some 42, _, _, _, _, _⟩) (v := ?v103) rfl (by kernel_rfl) (by kernel_rfl) (by kernel_rfl) (fun _ _ _ h => h) (Or.inl ⟨rfl, ?c103⟩) hH ?r103
  case c103 => (intro w' _; go_simp; (try with_reducible rfl))
  try simp only [Act.put, List.setIfInBounds_toArray, List.set_cons_zero, List.set_cons_succ]
  refine wpAnyH_take (i := 3) (oi := ⟨some 43, _, _, _, _, _⟩) (v := ?v104) rfl (by kernel_rfl) (by kernel_rfl) (by kernel_rfl) (fun _ _ _ h => h) (Or.inl ⟨rfl, ?c104⟩) hH ?r104
  case c104 => (intro w' hS; have c19 := hS.1; go_simp; (try with_reducible rfl))
  try simp only [Act.put, List.setIfInBounds_toArray, List.set_cons_zero, List.set_cons_succ]
  refine wpAnyH_take (i := 4) (oi := ⟨some 44, _, _, _, _, _⟩) (v := ?v105) rfl (by kernel_rfl) (by kernel_rfl) (by kernel_rfl) (fun _ _ _ h => h) (Or.inl ⟨rfl, ?c105⟩) hH ?r105
  case c105 => (intro w' hS; obtain ⟨x0, x1, x2, x3, x4⟩ := Ky.ky_cells hS.2.1; go_simp; (try with_reducible rfl))
  try simp only [Act.put, List.setIfInBounds_toArray, List.set_cons_zero, List.set_cons_succ]
  refine wpAnyH_take (i := 5) (oi := ⟨some 45, _, _, _, _, _⟩) (v := ?v106) rfl (by kernel_rfl) (by kernel_rfl) (by kernel_rfl) (fun _ _ _ h => h) (Or.inl ⟨rfl, ?c106⟩) hH ?r106
  case c106 => (intro w' _; go_simp; (try with_reducible rfl))
  try simp only [Act.put, List.setIfInBounds_toArray, List.set_cons_zero, List.set_cons_succ]
  refine wpAnyH_take (i := 6) (oi := ⟨some 46, _, _, _, _, _⟩) (v := ?v107) rfl (by kernel_rfl) (by kernel_rfl) (by kernel_rfl) (fun _ _ _ h => h) (Or.inl ⟨rfl, ?c107⟩) hH ?r107
  case c107 => (intro w' hS; have e0 := hS.2.2.cell 0 _ rfl; go_simp; (try with_reducible rfl))
  try simp only [Act.put, List.setIfInBounds_toArray, List.set_cons_zero, List.set_cons_succ]
  refine wpAnyH_take (i := 7) (oi := ⟨some 47, _, _, _, _, _⟩) (v := ?v108) rfl (by kernel_rfl) (by kernel_rfl) (by kernel_rfl) (fun _ _ _ h => h) (Or.inl ⟨rfl, ?c108⟩) hH ?r108
  case c108 => (intro w' _; go_simp; (try with_reducible rfl))
  try simp only [Act.put, List.setIfInBounds_toArray, List.set_cons_zero, List.set_cons_succ]
  refine wpAnyH_take (i := 8) (oi := ⟨some 48, _, _, _, _, _⟩) (v := ?v109) rfl (by kernel_rfl) (by kernel_rfl) (by kernel_rfl) (fun _ _ _ h => h) (Or.inl ⟨rfl, ?c109⟩) hH ?r109
  case c109 => (intro w' _; go_simp; (try with_reducible rfl))
  try simp only [Act.put, List.setIfInBounds_toArray, List.set_cons_zero, List.set_cons_succ]
  refine wpAnyH_take (i := 10) (oi := ⟨some 50, _, _, _, _, _⟩) (v := ?v110) rfl (by kernel_rfl) (by kernel_rfl) (by kernel_rfl) (fun _ _ _ h => h) (Or.inl ⟨rfl, ?c110⟩) hH ?r110
  case c110 => (intro w' _; go_simp; (try with_reducible rfl))
  try simp only [Act.put, List.setIfInBounds_toArray, List.set_cons_zero, List.set_cons_succ]
  refine wpAnyH_take (i := 11) (oi := ⟨some 51, _, _, _, _, _⟩) (v := ?v111) rfl (by kernel_rfl) (by kernel_rfl) (by kernel_rfl) (fun _ _ _ h => h) (Or.inl ⟨rfl, ?c111⟩) hH ?r111
  case c111 => (intro w' hS; have e1 := hS.2.2.cell 1 _ rfl; go_simp; (try with_reducible rfl))
  try simp only [Act.put, List.setIfInBounds_toArray, List.set_cons_zero, List.set_cons_succ]
  refine wpAnyH_ready (rs := [9]) (by kernel_rfl) (by simp) (AllReadyH.cons rfl (fun K hK => ?_) (AllReadyH.nil))
  have HQ4 := Lib.hid (HQ3.out.next (Below.refl _ WG).drew)
  go_simp
  go_at_call 85
  refine (HNE.out _ (HE.out.below HQ4.out.bel)).mono ?_
  rintro e w5 ⟨rfl, hb⟩
  replace HQ4 := Lib.hid (HQ4.out.next hb)
  clear hb
  refine hK.out _ _ (⟨HQ4.out.raw.at_ 19 _ rfl, HQ4.out.key, HQ4.out.ent⟩) (fun hH => ?_)
  clear hK K
  try simp only [Act.put, List.setIfInBounds_toArray, List.set_cons_zero, List.set_cons_succ]
  refine wpAnyH_take (i := 12) (oi := ⟨some 52, _, _, _, _, _⟩) (v := ?v112) rfl (by kernel_rfl) (by kernel_rfl) (by kernel_rfl) (fun _ _ _ h => h) (Or.inl ⟨rfl, ?c112⟩) hH ?r112
  case c112 => (intro w' _; go_simp; (try with_reducible rfl))
  try simp only [Act.put, List.setIfInBounds_toArray, List.set_cons_zero, List.set_cons_succ]
  refine wpAnyH_ready (rs := [13]) (by kernel_rfl) (by simp) (AllReadyH.cons rfl (fun K hK => ?_) (AllReadyH.nil))
  obtain ⟨WD, hD, HM, ho⟩ := HPU2.out w5 HQ4.out.raw.map
  have HO := Lib.hid ho
  go_simp
  have HR6 := Lib.hid (HQ4.out.raw.turn HO.out HM)
  have HO6 := Lib.hid ((Only.of_below HQ4.out.bel : Only O w w5).trans HO.out (fun j e => .inl (e ▸ HOM.out)))
  have hne : w.heap.size ≠ M := fun e => by have := HL.out _ HOM.out; omega
  have hne1 : w.heap.size + 1 ≠ M := fun e => by have := HL.out _ HOM.out; omega
  clear HM ho hD
  refine hK.out _ _ (⟨HR6.out.at_ 19 _ rfl, Blk.only HQ4.out.key HO.out hne, Blk.only HQ4.out.ent HO.out hne1⟩) (fun hH => ?_)
  clear hK K
  clear hne hne1
  try simp only [Act.put, List.setIfInBounds_toArray, List.set_cons_zero, List.set_cons_succ]
  refine wpAnyH_done (by kernel_rfl) ?_ _
  
  have HRAW := Lib.hid (HQ3.out.raw)
  clear hH
  go_wp2_with fail
  go_ret
  exact ⟨rfl, HR6.out, HO6.out⟩

set_option maxHeartbeats 1000000 in
theorem follow_no {w : World} {O : Nat → Prop} {B M : Nat} {N : Int} {T : Nat → Int} {c g v : Int} {li : Value} {rl : List R} {fs : List Fl} {t : Nat → Int} (H : Raw w O B M N T (GatM.gI c g v) li rl fs t) (he : Env w) (hf : GatM.Fit c g v) (htm : ∀ i, -9223372036854775808 ≤ T i ∧ T i ≤ 9223372036854775807) (ok : Oks fs) (f : Fl) (hk : find f.k fs = some f) (dn : Bool) (p : K) (hp : p.Ok)
    (nx u : Int) (hnx : Fs.neN f.s (dn != f.dn) (p.pr : Int) (p.fl : Int) (p.kd : Int) = nx) (hok : Fs.neB f.s (dn != f.dn) (p.pr : Int) (p.fl : Int) (p.kd : Int) = false) (f' : Fl) (hf' : f' = { f with c := Fl.clip (f.c), n := Fl.up f.n, s := (f.s) % 16 }) :
    Calls Tryz.prog 50 #[ptr B, kyV f.k, enV f, .bool dn, .agg (Ma.pK p)] w fun e w' => e = .returned (.int .i64 4) ∧ Raw w' O B M N T (GatM.gI c g v) li rl (put f' fs) t ∧ Only O w w' := by
  obtain ⟨x, hx⟩ : ∃ x, x = GatM.gI c g v := ⟨_, rfl⟩
  obtain ⟨y, hy⟩ : ∃ y, y = FloM.gI f.c f.n f.s := ⟨_, rfl⟩
  obtain ⟨d, hd⟩ : ∃ d, d = f.dn := ⟨_, rfl⟩
  have hm := (find_some hk).1
  have hft := (ok.ok f hm).fit
  have hf2 : f.k = f'.k := by rw [hf']
  have HUN : Hid (∀ W, Raw W O B M N T x li rl fs t → Env W → Calls Tryz.prog 84 #[ptr B, .int .i64 nx] W fun e w' => e = .returned (.int .i64 (Fs.untN T nx c)) ∧ Below W.heap.size W w') := fun W h e => until_any (hx ▸ h) e hf htm nx
  have HNX : Hid (∀ W, Calls Tryz.prog 83 #[.int .i64 f.s, .bool (dn != d), .agg (Ma.pK p)] W fun e w' => e = .returned (.tuple #[.int .i64 nx, .bool false]) ∧ Below W.heap.size W w') := fun W => by
    have h := Fs.next_any f.s (dn != f.dn) (p.pr : Int) (p.sr : Int) (p.ds : Int) (p.sp : Int) (p.dp : Int) (p.fl : Int) (p.kd : Int) (by have := hft.v0; have := hft.v1; omega) (by have := hp.fl; omega) W
    rw [hnx, hok] at h
    rw [hd]; exact h
  have HUP : Hid (∀ W, Env W → Calls Tryz.prog 41 #[.int .u64 y] W fun e w' => e = .returned (.agg (Fl.gtc f.s f.n f.c)) ∧ Below W.heap.size W w') := fun W e => by rw [hy]; exact Fl.unpack_any hft W e.fl
  have HNE : Hid (∀ W, Env W → Calls Tryz.prog 85 #[.int .u64 y, .int .i64 (f.s), .int .i64 (f.c)] W fun e w' => e = .returned (.int .u64 (FloM.gI f'.c f'.n f'.s)) ∧ Below W.heap.size W w') := fun W e => by
    rw [hy, hf']; exact Ga.quiet_below (Fl.next_any hft _ _ W e.fl)
  have HPU : Hid (∀ w1 y', y' = FloM.gI f'.c f'.n f'.s → MapAt w1 M fs → ∃ w', (Instr.mapUpdate 74 (.map (some M)) (kyV f.k) (enW y' d)).run Tryz.prog w1 = .ok () w' ∧ MapAt w' M (put f' fs) ∧ Only (· = M) w1 w') := fun w1 y' hy' h => by
    have h2 := run_put h ok (g := f') (f := f) (by rw [← hf2]; exact hk)
    have e : enW y' d = enV f' := by rw [hy', hd, hf']
    rw [e, hf2]
    exact h2
  obtain ⟨y', hy'⟩ : ∃ y', y' = FloM.gI f'.c f'.n f'.s := ⟨_, rfl⟩
  rw [← hy'] at HNE
  have HPU2 := Lib.hid (fun w1 => HPU.out w1 y' hy')
  have HDX : Hid (GatM.gI c g v = x) := hx.symm
  have HL := Lib.hid H.lt
  have HOM := Lib.hid H.om
  rw [← hx] at H
  have HE := Lib.hid he
  have HQ := Lib.hid (FQ.start H f.k y d p)
  have HENV : enV f = .agg #[.int .u64 y, .bool d] := by rw [hy, hd]
  rw [HENV, hx.symm]
  clear HENV
  clear H he hf htm hx hy hd ok hk hm hft hnx hok HUN hf' hf2 hy' HPU hp
  generalize f.k = k at *
  generalize f.s = s0 at *
  generalize f.n = n0 at *
  generalize f.c = c0 at *
  go_enter Tryz.func50, Tryz.ntmps50
  go_wp2_with fail
  obtain ⟨WZ, hWZ⟩ : ∃ v, v = ((w.alloc (.cells (Ky.kyc k.a k.b k.p k.q k.r) 45)).alloc (.cells #[.int .u64 y, .bool d] 101)).alloc (.cells (Ma.pK p) 41) := ⟨_, rfl⟩
  rw [← hWZ] at HQ
  simp only [← hWZ]
  clear hWZ
  have e0 := HQ.out.ent.cell 0 _ rfl
  go_wp2_with fail
  go_at_call 41
  refine (HUP.out _ (HE.out.below HQ.out.bel)).mono ?_
  rintro e w1 ⟨rfl, hb⟩
  have HQ1 := Lib.hid ((HQ.out.next hb).next (below_box w1 (.cells (Fl.gtc s0 n0 c0) 50)))
  have HF := Lib.hid (Blk.box w1 (Fl.gtc s0 n0 c0) 50)
  clear hb e0 HQ
  go_wp2_with fail
  obtain ⟨g11, hg⟩ : ∃ g, g = w1.heap.size := ⟨_, rfl⟩
  obtain ⟨WF, hWF⟩ : ∃ v, v = w1.alloc (.cells (Fl.gtc s0 n0 c0) 50) := ⟨_, rfl⟩
  simp only [← hg, ← hWF] at *
  clear hg hWF
  refine wp_region_held_drew (S := fun w' => FQ w O B M N T x li rl fs t k y d p w' ∧ Blk w' g11 (Fl.gtc s0 n0 c0) 50) (by kernel_rfl) (⟨HQ1.out.next (Below.refl _ WF).drew, HF.out.drew⟩) (fun hH => ?_)
  refine wpAnyH_take (i := 0) (oi := ⟨some 20, _, _, _, _, _⟩) (v := ?v1) rfl (by kernel_rfl) (by kernel_rfl) (by kernel_rfl) (fun _ _ _ h => h) (Or.inl ⟨rfl, ?c1⟩) hH ?r1
  case c1 => (intro w' _; go_simp; (try with_reducible rfl))
  try simp only [Act.put, List.setIfInBounds_toArray, List.set_cons_zero, List.set_cons_succ]
  refine wpAnyH_take (i := 1) (oi := ⟨some 21, _, _, _, _, _⟩) (v := ?v2) rfl (by kernel_rfl) (by kernel_rfl) (by kernel_rfl) (fun _ _ _ h => h) (Or.inl ⟨rfl, ?c2⟩) hH ?r2
  case c2 => (intro w' hS; obtain ⟨z0, z1, z2⟩ := Fl.gt_cells hS.2; go_simp; (try with_reducible rfl))
  try simp only [Act.put, List.setIfInBounds_toArray, List.set_cons_zero, List.set_cons_succ]
  refine wpAnyH_take (i := 2) (oi := ⟨some 22, _, _, _, _, _⟩) (v := ?v3) rfl (by kernel_rfl) (by kernel_rfl) (by kernel_rfl) (fun _ _ _ h => h) (Or.inl ⟨rfl, ?c3⟩) hH ?r3
  case c3 => (intro w' _; go_simp; (try with_reducible rfl))
  try simp only [Act.put, List.setIfInBounds_toArray, List.set_cons_zero, List.set_cons_succ]
  refine wpAnyH_take (i := 3) (oi := ⟨some 23, _, _, _, _, _⟩) (v := ?v4) rfl (by kernel_rfl) (by kernel_rfl) (by kernel_rfl) (fun _ _ _ h => h) (Or.inl ⟨rfl, ?c4⟩) hH ?r4
  case c4 => (intro w' hS; obtain ⟨z0, z1, z2⟩ := Fl.gt_cells hS.2; go_simp; (try with_reducible rfl))
  try simp only [Act.put, List.setIfInBounds_toArray, List.set_cons_zero, List.set_cons_succ]
  refine wpAnyH_take (i := 4) (oi := ⟨some 12, _, _, _, _, _⟩) (v := ?v5) rfl (by kernel_rfl) (by kernel_rfl) (by kernel_rfl) (fun _ _ _ h => h) (Or.inl ⟨rfl, ?c5⟩) hH ?r5
  case c5 => (intro w' _; go_simp; (try with_reducible rfl))
  try simp only [Act.put, List.setIfInBounds_toArray, List.set_cons_zero, List.set_cons_succ]
  refine wpAnyH_take (i := 5) (oi := ⟨some 13, _, _, _, _, _⟩) (v := ?v6) rfl (by kernel_rfl) (by kernel_rfl) (by kernel_rfl) (fun _ _ _ h => h) (Or.inl ⟨rfl, ?c6⟩) hH ?r6
  case c6 => (intro w' _; go_simp; (try with_reducible rfl))
  try simp only [Act.put, List.setIfInBounds_toArray, List.set_cons_zero, List.set_cons_succ]
  refine wpAnyH_take (i := 6) (oi := ⟨some 14, _, _, _, _, _⟩) (v := ?v7) rfl (by kernel_rfl) (by kernel_rfl) (by kernel_rfl) (fun _ _ _ h => h) (Or.inl ⟨rfl, ?c7⟩) hH ?r7
  case c7 => (intro w' _; go_simp; (try with_reducible rfl))
  try simp only [Act.put, List.setIfInBounds_toArray, List.set_cons_zero, List.set_cons_succ]
  refine wpAnyH_done (by kernel_rfl) ?_ _
  
  have HQ2 := Lib.hid hH.1
  have HF2 := Lib.hid hH.2
  obtain ⟨z0, z1, z2⟩ := Fl.gt_cells HF2.out
  have e0 := HQ2.out.ent.cell 0 _ rfl
  have e1 := HQ2.out.ent.cell 1 _ rfl
  obtain ⟨p0, p1, p2, p3, p4, p5, p6⟩ := Fs.pk_cells HQ2.out.pck
  clear hH
  go_wp2_with fail
  go_at_call 83
  refine (HNX.out _).mono ?_
  rintro e w2 ⟨rfl, hb⟩
  have HQ3 := Lib.hid (HQ2.out.next hb)
  clear hb e0 e1 p0 p1 p2 p3 p4 p5 p6 z0 z1 z2
  go_wp2_with fail
  obtain ⟨WG, hWG⟩ : ∃ v, v = w2 := ⟨_, rfl⟩
  rw [← hWG] at HQ3
  simp only [← hWG]
  clear hWG
  refine wp_region_held_drew (S := fun w' => w'.cell? ⟨B, 19, none⟩ = some (.map (some M)) ∧ Blk w' w.heap.size (Ky.kyc k.a k.b k.p k.q k.r) 45 ∧ Blk w' (w.heap.size + 1) #[.int .u64 y, .bool d] 101) (by kernel_rfl) (⟨HQ3.out.raw.drew.at_ 19 _ rfl, HQ3.out.key.drew, HQ3.out.ent.drew⟩) (fun hH => ?_)
  refine wpAnyH_take (i := 0) (oi := ⟨some 40, _, _, _, _, _⟩) (v := ?v101) rfl (by kernel_rfl) (by kernel_rfl) (by kernel_rfl) (fun _ _ _ h => h) (Or.inl ⟨rfl, ?c101⟩) hH ?r101
  case c101 => (intro w' _; go_simp; (try with_reducible rfl))
  try simp only [Act.put, List.setIfInBounds_toArray, List.set_cons_zero, List.set_cons_succ]
  refine wpAnyH_take (i := 1) (oi := ⟨some 41, _, _, _, _, _⟩) (v := ?v102) rfl (by kernel_rfl) (by kernel_rfl) (by kernel_rfl) (fun _ _ _ h => h) (Or.inl ⟨rfl, ?c102⟩) hH ?r102
  case c102 => (intro w' _; go_simp; (try with_reducible rfl))
  try simp only [Act.put, List.setIfInBounds_toArray, List.set_cons_zero, List.set_cons_succ]
  refine wpAnyH_take (i := 2) (oi := ⟨some 42, _, _, _, _, _⟩) (v := ?v103) rfl (by kernel_rfl) (by kernel_rfl) (by kernel_rfl) (fun _ _ _ h => h) (Or.inl ⟨rfl, ?c103⟩) hH ?r103
  case c103 => (intro w' _; go_simp; (try with_reducible rfl))
  try simp only [Act.put, List.setIfInBounds_toArray, List.set_cons_zero, List.set_cons_succ]
  refine wpAnyH_take (i := 3) (oi := ⟨some 43, _, _, _, _, _⟩) (v := ?v104) rfl (by kernel_rfl) (by kernel_rfl) (by kernel_rfl) (fun _ _ _ h => h) (Or.inl ⟨rfl, ?c104⟩) hH ?r104
  case c104 => (intro w' hS; have c19 := hS.1; go_simp; (try with_reducible rfl))
  try simp only [Act.put, List.setIfInBounds_toArray, List.set_cons_zero, List.set_cons_succ]
  refine wpAnyH_take (i := 4) (oi := ⟨some 44, _, _, _, _, _⟩) (v := ?v105) rfl (by kernel_rfl) (by kernel_rfl) (by kernel_rfl) (fun _ _ _ h => h) (Or.inl ⟨rfl, ?c105⟩) hH ?r105
  case c105 => (intro w' hS; obtain ⟨x0, x1, x2, x3, x4⟩ := Ky.ky_cells hS.2.1; go_simp; (try with_reducible rfl))
  try simp only [Act.put, List.setIfInBounds_toArray, List.set_cons_zero, List.set_cons_succ]
  refine wpAnyH_take (i := 5) (oi := ⟨some 45, _, _, _, _, _⟩) (v := ?v106) rfl (by kernel_rfl) (by kernel_rfl) (by kernel_rfl) (fun _ _ _ h => h) (Or.inl ⟨rfl, ?c106⟩) hH ?r106
  case c106 => (intro w' _; go_simp; (try with_reducible rfl))
  try simp only [Act.put, List.setIfInBounds_toArray, List.set_cons_zero, List.set_cons_succ]
  refine wpAnyH_take (i := 6) (oi := ⟨some 46, _, _, _, _, _⟩) (v := ?v107) rfl (by kernel_rfl) (by kernel_rfl) (by kernel_rfl) (fun _ _ _ h => h) (Or.inl ⟨rfl, ?c107⟩) hH ?r107
  case c107 => (intro w' hS; have e0 := hS.2.2.cell 0 _ rfl; go_simp; (try with_reducible rfl))
  try simp only [Act.put, List.setIfInBounds_toArray, List.set_cons_zero, List.set_cons_succ]
  refine wpAnyH_take (i := 7) (oi := ⟨some 47, _, _, _, _, _⟩) (v := ?v108) rfl (by kernel_rfl) (by kernel_rfl) (by kernel_rfl) (fun _ _ _ h => h) (Or.inl ⟨rfl, ?c108⟩) hH ?r108
  case c108 => (intro w' _; go_simp; (try with_reducible rfl))
  try simp only [Act.put, List.setIfInBounds_toArray, List.set_cons_zero, List.set_cons_succ]
  refine wpAnyH_take (i := 8) (oi := ⟨some 48, _, _, _, _, _⟩) (v := ?v109) rfl (by kernel_rfl) (by kernel_rfl) (by kernel_rfl) (fun _ _ _ h => h) (Or.inl ⟨rfl, ?c109⟩) hH ?r109
  case c109 => (intro w' _; go_simp; (try with_reducible rfl))
  try simp only [Act.put, List.setIfInBounds_toArray, List.set_cons_zero, List.set_cons_succ]
  refine wpAnyH_take (i := 10) (oi := ⟨some 50, _, _, _, _, _⟩) (v := ?v110) rfl (by kernel_rfl) (by kernel_rfl) (by kernel_rfl) (fun _ _ _ h => h) (Or.inl ⟨rfl, ?c110⟩) hH ?r110
  case c110 => (intro w' _; go_simp; (try with_reducible rfl))
  try simp only [Act.put, List.setIfInBounds_toArray, List.set_cons_zero, List.set_cons_succ]
  refine wpAnyH_take (i := 11) (oi := ⟨some 51, _, _, _, _, _⟩) (v := ?v111) rfl (by kernel_rfl) (by kernel_rfl) (by kernel_rfl) (fun _ _ _ h => h) (Or.inl ⟨rfl, ?c111⟩) hH ?r111
  case c111 => (intro w' hS; have e1 := hS.2.2.cell 1 _ rfl; go_simp; (try with_reducible rfl))
  try simp only [Act.put, List.setIfInBounds_toArray, List.set_cons_zero, List.set_cons_succ]
  refine wpAnyH_ready (rs := [9]) (by kernel_rfl) (by simp) (AllReadyH.cons rfl (fun K hK => ?_) (AllReadyH.nil))
  have HQ4 := Lib.hid (HQ3.out.next (Below.refl _ WG).drew)
  go_simp
  go_at_call 85
  refine (HNE.out _ (HE.out.below HQ4.out.bel)).mono ?_
  rintro e w5 ⟨rfl, hb⟩
  replace HQ4 := Lib.hid (HQ4.out.next hb)
  clear hb
  refine hK.out _ _ (⟨HQ4.out.raw.at_ 19 _ rfl, HQ4.out.key, HQ4.out.ent⟩) (fun hH => ?_)
  clear hK K
  try simp only [Act.put, List.setIfInBounds_toArray, List.set_cons_zero, List.set_cons_succ]
  refine wpAnyH_take (i := 12) (oi := ⟨some 52, _, _, _, _, _⟩) (v := ?v112) rfl (by kernel_rfl) (by kernel_rfl) (by kernel_rfl) (fun _ _ _ h => h) (Or.inl ⟨rfl, ?c112⟩) hH ?r112
  case c112 => (intro w' _; go_simp; (try with_reducible rfl))
  try simp only [Act.put, List.setIfInBounds_toArray, List.set_cons_zero, List.set_cons_succ]
  refine wpAnyH_ready (rs := [13]) (by kernel_rfl) (by simp) (AllReadyH.cons rfl (fun K hK => ?_) (AllReadyH.nil))
  obtain ⟨WD, hD, HM, ho⟩ := HPU2.out w5 HQ4.out.raw.map
  have HO := Lib.hid ho
  go_simp
  have HR6 := Lib.hid (HQ4.out.raw.turn HO.out HM)
  have HO6 := Lib.hid ((Only.of_below HQ4.out.bel : Only O w w5).trans HO.out (fun j e => .inl (e ▸ HOM.out)))
  have hne : w.heap.size ≠ M := fun e => by have := HL.out _ HOM.out; omega
  have hne1 : w.heap.size + 1 ≠ M := fun e => by have := HL.out _ HOM.out; omega
  clear HM ho hD
  refine hK.out _ _ (⟨HR6.out.at_ 19 _ rfl, Blk.only HQ4.out.key HO.out hne, Blk.only HQ4.out.ent HO.out hne1⟩) (fun hH => ?_)
  clear hK K
  clear hne hne1
  try simp only [Act.put, List.setIfInBounds_toArray, List.set_cons_zero, List.set_cons_succ]
  refine wpAnyH_done (by kernel_rfl) ?_ _
  
  have HRAW := Lib.hid (HQ3.out.raw)
  clear hH
  go_wp2_with fail
  go_ret
  exact ⟨rfl, HR6.out, HO6.out⟩
end Au
end Go.Proofs.YtcjppfggllbbeaaGreatDoor
