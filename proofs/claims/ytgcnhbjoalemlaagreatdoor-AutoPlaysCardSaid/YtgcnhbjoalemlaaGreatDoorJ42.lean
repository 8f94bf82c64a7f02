/- Several texts of this proof in one file, each in its own namespace. -/
import Derived.Test.YtgcnhbjoalemlaaGreatDoorJ41
import Derived.Test.YtgcnhbjoalemlaaGreatDoorJ34
import Derived.Test.YtgcnhbjoalemlaaGreatDoorFsmB
import Derived.Test.YtgcnhbjoalemlaaGreatDoorJ33
import Derived.Test.YtgcnhbjoalemlaaGreatDoorJ39
import Derived.Test.YtgcnhbjoalemlaaGreatDoorJ30
/- Layer 18: the contracts of follow. (Written by wip/tools/mkAutD.py.) -/
set_option linter.unusedVariables false
set_option linter.unusedSimpArgs false
set_option maxRecDepth 100000
namespace Go.Proofs.YtgcnhbjoalemlaaGreatDoor
open Go.ChangeShapes Go.WideShapes Go.ChangeAt Go.RowKit Go.Mtl Go.Lib
namespace Au
open AutM
open RulM (R)
open MatM (K)


/-- The firewall, three blocks of the call's own (a key, an entry, a packet), what was there before. -/
structure FQ (w0 : World) (O : Nat → Prop) (B M : Nat) (N : Int) (T : Nat → Int) (x : Int) (li : Value) (rl : List R) (fs : List Fl) (t : Nat → Int) (k : Ke) (y : Int) (d : Bool) (p : K) (w : World) : Prop where
  raw : Raw w O B M N T x li rl fs t
  key : Blk w w0.heap.size (Ky.kyc k.a k.b k.p k.q k.r) 45
  ent : Blk w (w0.heap.size + 1) #[.int .u64 y, .bool d] 93
  pck : Blk w (w0.heap.size + 2) (Ma.pK p) 41
  bel : Below w0.heap.size w0 w
theorem FQ.next {w0 w w' : World} {O : Nat → Prop} {B M : Nat} {N : Int} {T : Nat → Int} {x : Int} {li : Value} {rl : List R} {fs : List Fl} {t : Nat → Int} {k : Ke} {y : Int} {d : Bool} {p : K} (H : FQ w0 O B M N T x li rl fs t k y d p w) (hb : Below w.heap.size w w') : FQ w0 O B M N T x li rl fs t k y d p w' :=
  ⟨H.raw.next hb, H.key.next hb, H.ent.next hb, H.pck.next hb, H.bel.trans (hb.mono H.bel.size)⟩
theorem FQ.start {w : World} {O : Nat → Prop} {B M : Nat} {N : Int} {T : Nat → Int} {x : Int} {li : Value} {rl : List R} {fs : List Fl} {t : Nat → Int} (H : Raw w O B M N T x li rl fs t) (k : Ke) (y : Int) (d : Bool) (p : K) :
    FQ w O B M N T x li rl fs t k y d p (((w.alloc (.cells (Ky.kyc k.a k.b k.p k.q k.r) 45)).alloc (.cells #[.int .u64 y, .bool d] 93)).alloc (.cells (Ma.pK p) 41)) :=
  ⟨((H.alloc _).alloc _).alloc _, ((Blk.box _ _ _).alloc _).alloc _, (Blk.box1 _ _ _ _).alloc _, Blk.box2 _ _ _ _ _, ((below_box w _).alloc (by simp) _).alloc (by simp; omega) _⟩

set_option maxHeartbeats 1000000 in
theorem follow_yes {w : World} {O : Nat → Prop} {B M : Nat} {N : Int} {T : Nat → Int} {c g v : Int} {li : Value} {rl : List R} {fs : List Fl} {t : Nat → Int} (H : Raw w O B M N T (GatM.gI c g v) li rl fs t) (he : Env w) (hf : GatM.Fit c g v) (htm : ∀ i, -9223372036854775808 ≤ T i ∧ T i ≤ 9223372036854775807) (ok : Oks fs) (f : Fl) (hk : find f.k fs = some f) (dn : Bool) (p : K) (hp : p.Ok)
    (nx u : Int) (hnx : Fs.neN f.s (dn != f.dn) (p.pr : Int) (p.fl : Int) (p.kd : Int) = nx) (hok : Fs.neB f.s (dn != f.dn) (p.pr : Int) (p.fl : Int) (p.kd : Int) = true) (hu : Fs.untN T nx c = u) (f' : Fl) (hf' : f' = { f with c := Fl.clip (u), n := Fl.up f.n, s := (nx) % 16 }) :
    Calls Tryz.prog 39 #[ptr B, kyV f.k, enV f, .bool dn, .agg (Ma.pK p)] w fun e w' => e = .returned (.int .i64 1) ∧ Raw w' O B M N T (GatM.gI c g v) li rl (put f' fs) t ∧ Only O w w' := by
  obtain ⟨x, hx⟩ : ∃ x, x = GatM.gI c g v := ⟨_, rfl⟩
  obtain ⟨y, hy⟩ : ∃ y, y = FloM.gI f.c f.n f.s := ⟨_, rfl⟩
  obtain ⟨d, hd⟩ : ∃ d, d = f.dn := ⟨_, rfl⟩
  have hm := (find_some hk).1
  have hft := (ok.ok f hm).fit
  have hf2 : f.k = f'.k := by rw [hf']
  have HUN : Hid (∀ W, Raw W O B M N T x li rl fs t → Env W → Calls Tryz.prog 71 #[ptr B, .int .i64 nx] W fun e w' => e = .returned (.int .i64 (Fs.untN T nx c)) ∧ Below W.heap.size W w') := fun W h e => until_any (hx ▸ h) e hf htm nx
  have HNX : Hid (∀ W, Calls Tryz.prog 70 #[.int .i64 f.s, .bool (dn != d), .agg (Ma.pK p)] W fun e w' => e = .returned (.tuple #[.int .i64 nx, .bool true]) ∧ Below W.heap.size W w') := fun W => by
    have h := Fs.next_any f.s (dn != f.dn) (p.pr : Int) (p.sr : Int) (p.ds : Int) (p.sp : Int) (p.dp : Int) (p.fl : Int) (p.kd : Int) (by have := hft.v0; have := hft.v1; omega) (by have := hp.fl; omega) W
    rw [hnx, hok] at h
    rw [hd]; exact h
  have HUP : Hid (∀ W, Env W → Calls Tryz.prog 34 #[.int .u64 y] W fun e w' => e = .returned (.agg (Fl.gtc f.s f.n f.c)) ∧ Below W.heap.size W w') := fun W e => by rw [hy]; exact Fl.unpack_any hft W e.fl
  have HNE : Hid (∀ W, Env W → Calls Tryz.prog 72 #[.int .u64 y, .int .i64 (nx), .int .i64 (u)] W fun e w' => e = .returned (.int .u64 (FloM.gI f'.c f'.n f'.s)) ∧ Below W.heap.size W w') := fun W e => by
    rw [hy, hf']; exact Ga.quiet_below (Fl.next_any hft _ _ W e.fl)
  have HPU : Hid (∀ w1 y', y' = FloM.gI f'.c f'.n f'.s → MapAt w1 M fs → ∃ w', (Instr.mapUpdate 56 (.map (some M)) (kyV f.k) (enW y' d)).run Tryz.prog w1 = .ok () w' ∧ MapAt w' M (put f' fs) ∧ Only (· = M) w1 w') := fun w1 y' hy' h => by
    have h2 := run_put h ok (g := f') (f := f) (by rw [← hf2]; exact hk)
    have e : enW y' d = enV f' := by rw [hy', hd, hf']
    rw [e, hf2]
    exact h2
  obtain ⟨y', hy'⟩ : ∃ y', y' = FloM.gI f'.c f'.n f'.s := ⟨_, rfl⟩
  rw [← hy'] at HNE
  have HPU2 := Lib.hid (fun w1 => HPU.out w1 y' hy')
  have HDX : Hid (GatM.gI c g v = x) := hx.symm
  have HL := Lib.hid H.lt
  have HOM := Lib.hid H.om
  rw [← hx] at H
  have HE := Lib.hid he
  have HQ := Lib.hid (FQ.start H f.k y d p)
  have HENV : enV f = .agg #[.int .u64 y, .bool d] := by rw [hy, hd]
  rw [HENV, hx.symm]
  clear HENV
  clear H he hf htm hx hy hd ok hk hm hft hnx hok hf' hf2 hy' HPU hp
  generalize f.k = k at *
  generalize f.s = s0 at *
  generalize f.n = n0 at *
  generalize f.c = c0 at *
  rw [hu] at HUN
  clear hu
  go_enter Tryz.func39, Tryz.ntmps39
  go_wp2_with fail
  obtain ⟨WZ, hWZ⟩ : ∃ v, v = ((w.alloc (.cells (Ky.kyc k.a k.b k.p k.q k.r) 45)).alloc (.cells #[.int .u64 y, .bool d] 93)).alloc (.cells (Ma.pK p) 41) := ⟨_, rfl⟩
  rw [← hWZ] at HQ
  simp only [← hWZ]
  clear hWZ
  have e0 := HQ.out.ent.cell 0 _ rfl
  go_wp2_with fail
  go_at_call 34
  refine (HUP.out _ (HE.out.below HQ.out.bel)).mono ?_
  rintro e w1 ⟨rfl, hb⟩
  have HQ1 := Lib.hid ((HQ.out.next hb).next (below_box w1 (.cells (Fl.gtc s0 n0 c0) 50)))
  have HF := Lib.hid (Blk.box w1 (Fl.gtc s0 n0 c0) 50)
  clear hb e0 HQ
  go_wp2_with fail
  obtain ⟨g11, hg⟩ : ∃ g, g = w1.heap.size := ⟨_, rfl⟩
  obtain ⟨WF, hWF⟩ : ∃ v, v = w1.alloc (.cells (Fl.gtc s0 n0 c0) 50) := ⟨_, rfl⟩
  simp only [← hg, ← hWF] at *
  clear hg hWF
  refine wp_region_held_drew (S := fun w' => FQ w O B M N T x li rl fs t k y d p w' ∧ Blk w' g11 (Fl.gtc s0 n0 c0) 50) (by kernel_rfl) (⟨HQ1.out.next (Below.refl _ WF).drew, HF.out.drew⟩) (fun hH => ?_)
  refine wpAnyH_take (i := 0) (oi := ⟨some 20, _, _, _, _, _⟩) (v := ?v1) rfl (by kernel_rfl) (by kernel_rfl) (by kernel_rfl) (fun _ _ _ h => h) (Or.inl ⟨rfl, ?c1⟩) hH ?r1
  case c1 => (intro w' _; go_simp; (try with_reducible rfl))
  try simp only [Act.put, List.setIfInBounds_toArray, List.set_cons_zero, List.set_cons_succ]
  refine wpAnyH_take (i := 1) (oi := ⟨some 21, _, _, _, _, _⟩) (v := ?v2) rfl (by kernel_rfl) (by kernel_rfl) (by kernel_rfl) (fun _ _ _ h => h) (Or.inl ⟨rfl, ?c2⟩) hH ?r2
  case c2 => (intro w' hS; obtain ⟨z0, z1, z2⟩ := Fl.gt_cells hS.2; go_simp; (try with_reducible rfl))
  try simp only [Act.put, List.setIfInBounds_toArray, List.set_cons_zero, List.set_cons_succ]
  refine wpAnyH_take (i := 2) (oi := ⟨some 22, _, _, _, _, _⟩) (v := ?v3) rfl (by kernel_rfl) (by kernel_rfl) (by kernel_rfl) (fun _ _ _ h => h) (Or.inl ⟨rfl, ?c3⟩) hH ?r3
  case c3 => (intro w' _; go_simp; (try with_reducible rfl))
  try simp only [Act.put, List.setIfInBounds_toArray, List.set_cons_zero, List.set_cons_succ]
  refine wpAnyH_take (i := 3) (oi := ⟨some 23, _, _, _, _, _⟩) (v := ?v4) rfl (by kernel_rfl) (by kernel_rfl) (by kernel_rfl) (fun _ _ _ h => h) (Or.inl ⟨rfl, ?c4⟩) hH ?r4
  case c4 => (intro w' hS; obtain ⟨z0, z1, z2⟩ := Fl.gt_cells hS.2; go_simp; (try with_reducible rfl))
  try simp only [Act.put, List.setIfInBounds_toArray, List.set_cons_zero, List.set_cons_succ]
  refine wpAnyH_take (i := 4) (oi := ⟨some 12, _, _, _, _, _⟩) (v := ?v5) rfl (by kernel_rfl) (by kernel_rfl) (by kernel_rfl) (fun _ _ _ h => h) (Or.inl ⟨rfl, ?c5⟩) hH ?r5
  case c5 => (intro w' _; go_simp; (try with_reducible rfl))
  try simp only [Act.put, List.setIfInBounds_toArray, List.set_cons_zero, List.set_cons_succ]
  refine wpAnyH_take (i := 5) (oi := ⟨some 13, _, _, _, _, _⟩) (v := ?v6) rfl (by kernel_rfl) (by kernel_rfl) (by kernel_rfl) (fun _ _ _ h => h) (Or.inl ⟨rfl, ?c6⟩) hH ?r6
  case c6 => (intro w' _; go_simp; (try with_reducible rfl))
  try simp only [Act.put, List.setIfInBounds_toArray, List.set_cons_zero, List.set_cons_succ]
  refine wpAnyH_take (i := 6) (oi := ⟨some 14, _, _, _, _, _⟩) (v := ?v7) rfl (by kernel_rfl) (by kernel_rfl) (by kernel_rfl) (fun _ _ _ h => h) (Or.inl ⟨rfl, ?c7⟩) hH ?r7
  case c7 => (intro w' _; go_simp; (try with_reducible rfl))
  try simp only [Act.put, List.setIfInBounds_toArray, List.set_cons_zero, List.set_cons_succ]
  refine wpAnyH_done (by kernel_rfl) ?_ _
  
  have HQ2 := Lib.hid hH.1
  have HF2 := Lib.hid hH.2
  obtain ⟨z0, z1, z2⟩ := Fl.gt_cells HF2.out
  have e0 := HQ2.out.ent.cell 0 _ rfl
  have e1 := HQ2.out.ent.cell 1 _ rfl
  obtain ⟨p0, p1, p2, p3, p4, p5, p6⟩ := Fs.pk_cells HQ2.out.pck
  clear hH
  go_wp2_with fail
  go_at_call 70
  refine (HNX.out _).mono ?_
  rintro e w2 ⟨rfl, hb⟩
  have HQ3 := Lib.hid (HQ2.out.next hb)
  clear hb e0 e1 p0 p1 p2 p3 p4 p5 p6 z0 z1 z2
  go_wp2_with fail
  go_at_call 71
  refine (HUN.out _ HQ3.out.raw (HE.out.below HQ3.out.bel)).mono ?_
  rintro e w3 ⟨rfl, hb⟩
  replace HQ3 := Lib.hid (HQ3.out.next hb)
  clear hb
  go_wp2_with fail
  obtain ⟨WG, hWG⟩ : ∃ v, v = w3 := ⟨_, rfl⟩
  rw [← hWG] at HQ3
  simp only [← hWG]
  clear hWG
  refine wp_region_held_drew (S := fun w' => w'.cell? ⟨B, 19, none⟩ = some (.map (some M)) ∧ Blk w' w.heap.size (Ky.kyc k.a k.b k.p k.q k.r) 45 ∧ Blk w' (w.heap.size + 1) #[.int .u64 y, .bool d] 93) (by kernel_rfl) (⟨HQ3.out.raw.drew.at_ 19 _ rfl, HQ3.out.key.drew, HQ3.out.ent.drew⟩) (fun hH => ?_)
  refine wpAnyH_take (i := 0) (oi := ⟨some 40, _, _, _, _, _⟩) (v := ?v101) rfl (by kernel_rfl) (by kernel_rfl) (by kernel_rfl) (fun _ _ _ h => h) (Or.inl ⟨rfl, ?c101⟩) hH ?r101
  case c101 => (intro w' _; go_simp; (try with_reducible rfl))
  try simp only [Act.put, List.setIfInBounds_toArray, List.set_cons_zero, List.set_cons_succ]
  refine wpAnyH_take (i := 1) (oi := ⟨some 41, _, _, _, _, _⟩) (v := ?v102) rfl (by kernel_rfl) (by kernel_rfl) (by kernel_rfl) (fun _ _ _ h => h) (Or.inl ⟨rfl, ?c102⟩) hH ?r102
  case c102 => (intro w' _; go_simp; (try with_reducible rfl))
  try simp only [Act.put, List.setIfInBounds_toArray, List.set_cons_zero, List.set_cons_succ]
  refine wpAnyH_take (i := 2) (oi := ⟨some 42, _, _, _, _, _⟩) (v := ?v103) rfl (by kernel_rfl) (by kernel_rfl) (by kernel_rfl) (fun _ _ _ h => h) (Or.inl ⟨rfl, ?c103⟩) hH ?r103
  case c103 => (intro w' _; go_simp; (try with_reducible rfl))
  try simp only [Act.put, List.setIfInBounds_toArray, List.set_cons_zero, List.set_cons_succ]
  refine wpAnyH_take (i := 3) (oi := ⟨some 43, _, _, _, _, _⟩) (v := ?v104) rfl (by kernel_rfl) (by kernel_rfl) (by kernel_rfl) (fun _ _ _ h => h) (Or.inl ⟨rfl, ?c104⟩) hH ?r104
  case c104 => (intro w' hS; have c19 := hS.1; go_simp; (try with_reducible rfl))
  try simp only [Act.put, List.setIfInBounds_toArray, List.set_cons_zero, List.set_cons_succ]
  refine wpAnyH_take (i := 4) (oi := ⟨some 44, _, _, _, _, _⟩) (v := ?v105) rfl (by kernel_rfl) (by kernel_rfl) (by kernel_rfl) (fun _ _ _ h => h) (Or.inl ⟨rfl, ?c105⟩) hH ?r105
  case c105 => (intro w' hS; obtain ⟨x0, x1, x2, x3, x4⟩ := Ky.ky_cells hS.2.1; go_simp; (try with_reducible rfl))
  try simp only [Act.put, List.setIfInBounds_toArray, List.set_cons_zero, List.set_cons_succ]
  refine wpAnyH_take (i := 5) (oi := ⟨some 45, _, _, _, _, _⟩) (v := ?v106) rfl (by kernel_rfl) (by kernel_rfl) (by kernel_rfl) (fun _ _ _ h => h) (Or.inl ⟨rfl, ?c106⟩) hH ?r106
  case c106 => (intro w' _; go_simp; (try with_reducible rfl))
  try simp only [Act.put, List.setIfInBounds_toArray, List.set_cons_zero, List.set_cons_succ]
  refine wpAnyH_take (i := 6) (oi := ⟨some 46, _, _, _, _, _⟩) (v := ?v107) rfl (by kernel_rfl) (by kernel_rfl) (by kernel_rfl) (fun _ _ _ h => h) (Or.inl ⟨rfl, ?c107⟩) hH ?r107
  case c107 => (intro w' hS; have e0 := hS.2.2.cell 0 _ rfl; go_simp; (try with_reducible rfl))
  try simp only [Act.put, List.setIfInBounds_toArray, List.set_cons_zero, List.set_cons_succ]
  refine wpAnyH_take (i := 7) (oi := ⟨some 47, _, _, _, _, _⟩) (v := ?v108) rfl (by kernel_rfl) (by kernel_rfl) (by kernel_rfl) (fun _ _ _ h => h) (Or.inl ⟨rfl, ?c108⟩) hH ?r108
  case c108 => (intro w' _; go_simp; (try with_reducible rfl))
  try simp only [Act.put, List.setIfInBounds_toArray, List.set_cons_zero, List.set_cons_succ]
  refine wpAnyH_take (i := 8) (oi := ⟨some 48, _, _, _, _, _⟩) (v := ?v109) rfl (by kernel_rfl) (by kernel_rfl) (by kernel_rfl) (fun _ _ _ h => h) (Or.inl ⟨rfl, ?c109⟩) hH ?r109
  case c109 => (intro w' _; go_simp; (try with_reducible rfl))
  try simp only [Act.put, List.setIfInBounds_toArray, List.set_cons_zero, List.set_cons_succ]
  refine wpAnyH_take (i := 10) (oi := ⟨some 50, _, _, _, _, _⟩) (v := ?v110) rfl (by kernel_rfl) (by kernel_rfl) (by kernel_rfl) (fun _ _ _ h => h) (Or.inl ⟨rfl, ?c110⟩) hH ?r110
  case c110 => (intro w' _; go_simp; (try with_reducible rfl))
  try simp only [Act.put, List.setIfInBounds_toArray, List.set_cons_zero, List.set_cons_succ]
  refine wpAnyH_take (i := 11) (oi := ⟨some 51, _, _, _, _, _⟩) (v := ?v111) rfl (by kernel_rfl) (by kernel_rfl) (by kernel_rfl) (fun _ _ _ h => h) (Or.inl ⟨rfl, ?c111⟩) hH ?r111
  case c111 => (intro w' hS; have e1 := hS.2.2.cell 1 _ rfl; go_simp; (try with_reducible rfl))
  try simp only [Act.put, List.setIfInBounds_toArray, List.set_cons_zero, List.set_cons_succ]
  refine wpAnyH_ready (rs := [9]) (by kernel_rfl) (by simp) (AllReadyH.cons rfl (fun K hK => ?_) (AllReadyH.nil))
  have HQ4 := Lib.hid (HQ3.out.next (Below.refl _ WG).drew)
  go_simp
  go_at_call 72
  refine (HNE.out _ (HE.out.below HQ4.out.bel)).mono ?_
  rintro e w5 ⟨rfl, hb⟩
  replace HQ4 := Lib.hid (HQ4.out.next hb)
  clear hb
  refine hK.out _ _ (⟨HQ4.out.raw.at_ 19 _ rfl, HQ4.out.key, HQ4.out.ent⟩) (fun hH => ?_)
  clear hK K
  try simp only [Act.put, List.setIfInBounds_toArray, List.set_cons_zero, List.set_cons_succ]
  refine wpAnyH_take (i := 12) (oi := ⟨some 52, _, _, _, _, _⟩) (v := ?v112) rfl (by kernel_rfl) (by kernel_rfl) (by kernel_rfl) (fun _ _ _ h => h) (Or.inl ⟨rfl, ?c112⟩) hH ?r112
  case c112 => (intro w' _; go_simp; (try with_reducible rfl))
  try simp only [Act.put, List.setIfInBounds_toArray, List.set_cons_zero, List.set_cons_succ]
  refine wpAnyH_ready (rs := [13]) (by kernel_rfl) (by simp) (AllReadyH.cons rfl (fun K hK => ?_) (AllReadyH.nil))
  obtain ⟨WD, hD, HM, ho⟩ := HPU2.out w5 HQ4.out.raw.map
  have HO := Lib.hid ho
  go_simp
  have HR6 := Lib.hid (HQ4.out.raw.turn HO.out HM)
  have HO6 := Lib.hid ((Only.of_below HQ4.out.bel : Only O w w5).trans HO.out (fun j e => .inl (e ▸ HOM.out)))
  have hne : w.heap.size ≠ M := fun e => by have := HL.out _ HOM.out; omega
  have hne1 : w.heap.size + 1 ≠ M := fun e => by have := HL.out _ HOM.out; omega
  clear HM ho hD
  refine hK.out _ _ (⟨HR6.out.at_ 19 _ rfl, Blk.only HQ4.out.key HO.out hne, Blk.only HQ4.out.ent HO.out hne1⟩) (fun hH => ?_)
  clear hK K
  clear hne hne1
  try simp only [Act.put, List.setIfInBounds_toArray, List.set_cons_zero, List.set_cons_succ]
  refine wpAnyH_done (by kernel_rfl) ?_ _
  
  have HRAW := Lib.hid (HQ3.out.raw)
  clear hH
  go_wp2_with fail
  go_ret
  exact ⟨rfl, HR6.out, HO6.out⟩

set_option maxHeartbeats 1000000 in
theorem follow_no {w : World} {O : Nat → Prop} {B M : Nat} {N : Int} {T : Nat → Int} {c g v : Int} {li : Value} {rl : List R} {fs : List Fl} {t : Nat → Int} (H : Raw w O B M N T (GatM.gI c g v) li rl fs t) (he : Env w) (hf : GatM.Fit c g v) (htm : ∀ i, -9223372036854775808 ≤ T i ∧ T i ≤ 9223372036854775807) (ok : Oks fs) (f : Fl) (hk : find f.k fs = some f) (dn : Bool) (p : K) (hp : p.Ok)
    (nx u : Int) (hnx : Fs.neN f.s (dn != f.dn) (p.pr : Int) (p.fl : Int) (p.kd : Int) = nx) (hok : Fs.neB f.s (dn != f.dn) (p.pr : Int) (p.fl : Int) (p.kd : Int) = false) (f' : Fl) (hf' : f' = { f with c := Fl.clip (f.c), n := Fl.up f.n, s := (f.s) % 16 }) :
    Calls Tryz.prog 39 #[ptr B, kyV f.k, enV f, .bool dn, .agg (Ma.pK p)] w fun e w' => e = .returned (.int .i64 4) ∧ Raw w' O B M N T (GatM.gI c g v) li rl (put f' fs) t ∧ Only O w w' := by
  obtain ⟨x, hx⟩ : ∃ x, x = GatM.gI c g v := ⟨_, rfl⟩
  obtain ⟨y, hy⟩ : ∃ y, y = FloM.gI f.c f.n f.s := ⟨_, rfl⟩
  obtain ⟨d, hd⟩ : ∃ d, d = f.dn := ⟨_, rfl⟩
  have hm := (find_some hk).1
  have hft := (ok.ok f hm).fit
  have hf2 : f.k = f'.k := by rw [hf']
  have HUN : Hid (∀ W, Raw W O B M N T x li rl fs t → Env W → Calls Tryz.prog 71 #[ptr B, .int .i64 nx] W fun e w' => e = .returned (.int .i64 (Fs.untN T nx c)) ∧ Below W.heap.size W w') := fun W h e => until_any (hx ▸ h) e hf htm nx
  have HNX : Hid (∀ W, Calls Tryz.prog 70 #[.int .i64 f.s, .bool (dn != d), .agg (Ma.pK p)] W fun e w' => e = .returned (.tuple #[.int .i64 nx, .bool false]) ∧ Below W.heap.size W w') := fun W => by
    have h := Fs.next_any f.s (dn != f.dn) (p.pr : Int) (p.sr : Int) (p.ds : Int) (p.sp : Int) (p.dp : Int) (p.fl : Int) (p.kd : Int) (by have := hft.v0; have := hft.v1; omega) (by have := hp.fl; omega) W
    rw [hnx, hok] at h
    rw [hd]; exact h
  have HUP : Hid (∀ W, Env W → Calls Tryz.prog 34 #[.int .u64 y] W fun e w' => e = .returned (.agg (Fl.gtc f.s f.n f.c)) ∧ Below W.heap.size W w') := fun W e => by rw [hy]; exact Fl.unpack_any hft W e.fl
  have HNE : Hid (∀ W, Env W → Calls Tryz.prog 72 #[.int .u64 y, .int .i64 (f.s), .int .i64 (f.c)] W fun e w' => e = .returned (.int .u64 (FloM.gI f'.c f'.n f'.s)) ∧ Below W.heap.size W w') := fun W e => by
    rw [hy, hf']; exact Ga.quiet_below (Fl.next_any hft _ _ W e.fl)
  have HPU : Hid (∀ w1 y', y' = FloM.gI f'.c f'.n f'.s → MapAt w1 M fs → ∃ w', (Instr.mapUpdate 56 (.map (some M)) (kyV f.k) (enW y' d)).run Tryz.prog w1 = .ok () w' ∧ MapAt w' M (put f' fs) ∧ Only (· = M) w1 w') := fun w1 y' hy' h => by
    have h2 := run_put h ok (g := f') (f := f) (by rw [← hf2]; exact hk)
    have e : enW y' d = enV f' := by rw [hy', hd, hf']
    rw [e, hf2]
    exact h2
  obtain ⟨y', hy'⟩ : ∃ y', y' = FloM.gI f'.c f'.n f'.s := ⟨_, rfl⟩
  rw [← hy'] at HNE
  have HPU2 := Lib.hid (fun w1 => HPU.out w1 y' hy')
  have HDX : Hid (GatM.gI c g v = x) := hx.symm
  have HL := Lib.hid H.lt
  have HOM := Lib.hid H.om
  rw [← hx] at H
  have HE := Lib.hid he
  have HQ := Lib.hid (FQ.start H f.k y d p)
  have HENV : enV f = .agg #[.int .u64 y, .bool d] := by rw [hy, hd]
  rw [HENV, hx.symm]
  clear HENV
  clear H he hf htm hx hy hd ok hk hm hft hnx hok HUN hf' hf2 hy' HPU hp
  generalize f.k = k at *
  generalize f.s = s0 at *
  generalize f.n = n0 at *
  generalize f.c = c0 at *
  go_enter Tryz.func39, Tryz.ntmps39
  go_wp2_with fail
  obtain ⟨WZ, hWZ⟩ : ∃ v, v = ((w.alloc (.cells (Ky.kyc k.a k.b k.p k.q k.r) 45)).alloc (.cells #[.int .u64 y, .bool d] 93)).alloc (.cells (Ma.pK p) 41) := ⟨_, rfl⟩
  rw [← hWZ] at HQ
  simp only [← hWZ]
  clear hWZ
  have e0 := HQ.out.ent.cell 0 _ rfl
  go_wp2_with fail
  go_at_call 34
  refine (HUP.out _ (HE.out.below HQ.out.bel)).mono ?_
  rintro e w1 ⟨rfl, hb⟩
  have HQ1 := Lib.hid ((HQ.out.next hb).next (below_box w1 (.cells (Fl.gtc s0 n0 c0) 50)))
  have HF := Lib.hid (Blk.box w1 (Fl.gtc s0 n0 c0) 50)
  clear hb e0 HQ
  go_wp2_with fail
  obtain ⟨g11, hg⟩ : ∃ g, g = w1.heap.size := ⟨_, rfl⟩
  obtain ⟨WF, hWF⟩ : ∃ v, v = w1.alloc (.cells (Fl.gtc s0 n0 c0) 50) := ⟨_, rfl⟩
  simp only [← hg, ← hWF] at *
  clear hg hWF
  refine wp_region_held_drew (S := fun w' => FQ w O B M N T x li rl fs t k y d p w' ∧ Blk w' g11 (Fl.gtc s0 n0 c0) 50) (by kernel_rfl) (⟨HQ1.out.next (Below.refl _ WF).drew, HF.out.drew⟩) (fun hH => ?_)
  refine wpAnyH_take (i := 0) (oi := ⟨some 20, _, _, _, _, _⟩) (v := ?v1) rfl (by kernel_rfl) (by kernel_rfl) (by kernel_rfl) (fun _ _ _ h => h) (Or.inl ⟨rfl, ?c1⟩) hH ?r1
  case c1 => (intro w' _; go_simp; (try with_reducible rfl))
  try simp only [Act.put, List.setIfInBounds_toArray, List.set_cons_zero, List.set_cons_succ]
  refine wpAnyH_take (i := 1) (oi := ⟨some 21, _, _, _, _, _⟩) (v := ?v2) rfl (by kernel_rfl) (by kernel_rfl) (by kernel_rfl) (fun _ _ _ h => h) (Or.inl ⟨rfl, ?c2⟩) hH ?r2
  case c2 => (intro w' hS; obtain ⟨z0, z1, z2⟩ := Fl.gt_cells hS.2; go_simp; (try with_reducible rfl))
  try simp only [Act.put, List.setIfInBounds_toArray, List.set_cons_zero, List.set_cons_succ]
  refine wpAnyH_take (i := 2) (oi := ⟨some 22, _, _, _, _, _⟩) (v := ?v3) rfl (by kernel_rfl) (by kernel_rfl) (by kernel_rfl) (fun _ _ _ h => h) (Or.inl ⟨rfl, ?c3⟩) hH ?r3
  case c3 => (intro w' _; go_simp; (try with_reducible rfl))
  try simp only [Act.put, List.setIfInBounds_toArray, List.set_cons_zero, List.set_cons_succ]
  refine wpAnyH_take (i := 3) (oi := ⟨some 23, _, _, _, _, _⟩) (v := ?v4) rfl (by kernel_rfl) (by kernel_rfl) (by kernel_rfl) (fun _ _ _ h => h) (Or.inl ⟨rfl, ?c4⟩) hH ?r4
  case c4 => (intro w' hS; obtain ⟨z0, z1, z2⟩ := Fl.gt_cells hS.2; go_simp; (try with_reducible rfl))
  try simp only [Act.put, List.setIfInBounds_toArray, List.set_cons_zero, List.set_cons_succ]
  refine wpAnyH_take (i := 4) (oi := ⟨some 12, _, _, _, _, _⟩) (v := ?v5) rfl (by kernel_rfl) (by kernel_rfl) (by kernel_rfl) (fun _ _ _ h => h) (Or.inl ⟨rfl, ?c5⟩) hH ?r5
  case c5 => (intro w' _; go_simp; (try with_reducible rfl))
  try simp only [Act.put, List.setIfInBounds_toArray, List.set_cons_zero, List.set_cons_succ]
  refine wpAnyH_take (i := 5) (oi := ⟨some 13, _, _, _, _, _⟩) (v := ?v6) rfl (by kernel_rfl) (by kernel_rfl) (by kernel_rfl) (fun _ _ _ h => h) (Or.inl ⟨rfl, ?c6⟩) hH ?r6
  case c6 => (intro w' _; go_simp; (try with_reducible rfl))
  try simp only [Act.put, List.setIfInBounds_toArray, List.set_cons_zero, List.set_cons_succ]
  refine wpAnyH_take (i := 6) (oi := ⟨some 14, _, _, _, _, _⟩) (v := ?v7) rfl (by kernel_rfl) (by kernel_rfl) (by kernel_rfl) (fun _ _ _ h => h) (Or.inl ⟨rfl, ?c7⟩) hH ?r7
  case c7 => (intro w' _; go_simp; (try with_reducible rfl))
  try simp only [Act.put, List.setIfInBounds_toArray, List.set_cons_zero, List.set_cons_succ]
  refine wpAnyH_done (by kernel_rfl) ?_ _
  
  have HQ2 := Lib.hid hH.1
  have HF2 := Lib.hid hH.2
  obtain ⟨z0, z1, z2⟩ := Fl.gt_cells HF2.out
  have e0 := HQ2.out.ent.cell 0 _ rfl
  have e1 := HQ2.out.ent.cell 1 _ rfl
  obtain ⟨p0, p1, p2, p3, p4, p5, p6⟩ := Fs.pk_cells HQ2.out.pck
  clear hH
  go_wp2_with fail
  go_at_call 70
  refine (HNX.out _).mono ?_
  rintro e w2 ⟨rfl, hb⟩
  have HQ3 := Lib.hid (HQ2.out.next hb)
  clear hb e0 e1 p0 p1 p2 p3 p4 p5 p6 z0 z1 z2
  go_wp2_with fail
  obtain ⟨WG, hWG⟩ : ∃ v, v = w2 := ⟨_, rfl⟩
  rw [← hWG] at HQ3
  simp only [← hWG]
  clear hWG
  refine wp_region_held_drew (S := fun w' => w'.cell? ⟨B, 19, none⟩ = some (.map (some M)) ∧ Blk w' w.heap.size (Ky.kyc k.a k.b k.p k.q k.r) 45 ∧ Blk w' (w.heap.size + 1) #[.int .u64 y, .bool d] 93) (by kernel_rfl) (⟨HQ3.out.raw.drew.at_ 19 _ rfl, HQ3.out.key.drew, HQ3.out.ent.drew⟩) (fun hH => ?_)
  refine wpAnyH_take (i := 0) (oi := ⟨some 40, _, _, _, _, _⟩) (v := ?v101) rfl (by kernel_rfl) (by kernel_rfl) (by kernel_rfl) (fun _ _ _ h => h) (Or.inl ⟨rfl, ?c101⟩) hH ?r101
  case c101 => (intro w' _; go_simp; (try with_reducible rfl))
  try simp only [Act.put, List.setIfInBounds_toArray, List.set_cons_zero, List.set_cons_succ]
  refine wpAnyH_take (i := 1) (oi := ⟨some 41, _, _, _, _, _⟩) (v := ?v102) rfl (by kernel_rfl) (by kernel_rfl) (by kernel_rfl) (fun _ _ _ h => h) (Or.inl ⟨rfl, ?c102⟩) hH ?r102
  case c102 => (intro w' _; go_simp; (try with_reducible rfl))
  try simp only [Act.put, List.setIfInBounds_toArray, List.set_cons_zero, List.set_cons_succ]
  refine wpAnyH_take (i := 2) (oi := ⟨some 42, _, _, _, _, _⟩) (v := ?v103) rfl (by kernel_rfl) (by kernel_rfl) (by kernel_rfl) (fun _ _ _ h => h) (Or.inl ⟨rfl, ?c103⟩) hH ?r103
  case c103 => (intro w' _; go_simp; (try with_reducible rfl))
  try simp only [Act.put, List.setIfInBounds_toArray, List.set_cons_zero, List.set_cons_succ]
  refine wpAnyH_take (i := 3) (oi := ⟨some 43, _, _, _, _, _⟩) (v := ?v104) rfl (by kernel_rfl) (by kernel_rfl) (by kernel_rfl) (fun _ _ _ h => h) (Or.inl ⟨rfl, ?c104⟩) hH ?r104
  case c104 => (intro w' hS; have c19 := hS.1; go_simp; (try with_reducible rfl))
  try simp only [Act.put, List.setIfInBounds_toArray, List.set_cons_zero, List.set_cons_succ]
  refine wpAnyH_take (i := 4) (oi := ⟨some 44, _, _, _, _, _⟩) (v := ?v105) rfl (by kernel_rfl) (by kernel_rfl) (by kernel_rfl) (fun _ _ _ h => h) (Or.inl ⟨rfl, ?c105⟩) hH ?r105
  case c105 => (intro w' hS; obtain ⟨x0, x1, x2, x3, x4⟩ := Ky.ky_cells hS.2.1; go_simp; (try with_reducible rfl))
  try simp only [Act.put, List.setIfInBounds_toArray, List.set_cons_zero, List.set_cons_succ]
  refine wpAnyH_take (i := 5) (oi := ⟨some 45, _, _, _, _, _⟩) (v := ?v106) rfl (by kernel_rfl) (by kernel_rfl) (by kernel_rfl) (fun _ _ _ h => h) (Or.inl ⟨rfl, ?c106⟩) hH ?r106
  case c106 => (intro w' _; go_simp; (try with_reducible rfl))
  try simp only [Act.put, List.setIfInBounds_toArray, List.set_cons_zero, List.set_cons_succ]
  refine wpAnyH_take (i := 6) (oi := ⟨some 46, _, _, _, _, _⟩) (v := ?v107) rfl (by kernel_rfl) (by kernel_rfl) (by kernel_rfl) (fun _ _ _ h => h) (Or.inl ⟨rfl, ?c107⟩) hH ?r107
  case c107 => (intro w' hS; have e0 := hS.2.2.cell 0 _ rfl; go_simp; (try with_reducible rfl))
  try simp only [Act.put, List.setIfInBounds_toArray, List.set_cons_zero, List.set_cons_succ]
  refine wpAnyH_take (i := 7) (oi := ⟨some 47, _, _, _, _, _⟩) (v := ?v108) rfl (by kernel_rfl) (by kernel_rfl) (by kernel_rfl) (fun _ _ _ h => h) (Or.inl ⟨rfl, ?c108⟩) hH ?r108
  case c108 => (intro w' _; go_simp; (try with_reducible rfl))
  try simp only [Act.put, List.setIfInBounds_toArray, List.set_cons_zero, List.set_cons_succ]
  refine wpAnyH_take (i := 8) (oi := ⟨some 48, _, _, _, _, _⟩) (v := ?v109) rfl (by kernel_rfl) (by kernel_rfl) (by kernel_rfl) (fun _ _ _ h => h) (Or.inl ⟨rfl, ?c109⟩) hH ?r109
  case c109 => (intro w' _; go_simp; (try with_reducible rfl))
  try simp only [Act.put, List.setIfInBounds_toArray, List.set_cons_zero, List.set_cons_succ]
  refine wpAnyH_take (i := 10) (oi := ⟨some 50, _, _, _, _, _⟩) (v := ?v110) rfl (by kernel_rfl) (by kernel_rfl) (by kernel_rfl) (fun _ _ _ h => h) (Or.inl ⟨rfl, ?c110⟩) hH ?r110
  case c110 => (intro w' _; go_simp; (try with_reducible rfl))
  try simp only [Act.put, List.setIfInBounds_toArray, List.set_cons_zero, List.set_cons_succ]
  refine wpAnyH_take (i := 11) (oi := ⟨some 51, _, _, _, _, _⟩) (v := ?v111) rfl (by kernel_rfl) (by kernel_rfl) (by kernel_rfl) (fun _ _ _ h => h) (Or.inl ⟨rfl, ?c111⟩) hH ?r111
  case c111 => (intro w' hS; have e1 := hS.2.2.cell 1 _ rfl; go_simp; (try with_reducible rfl))
  try simp only [Act.put, List.setIfInBounds_toArray, List.set_cons_zero, List.set_cons_succ]
  refine wpAnyH_ready (rs := [9]) (by kernel_rfl) (by simp) (AllReadyH.cons rfl (fun K hK => ?_) (AllReadyH.nil))
  have HQ4 := Lib.hid (HQ3.out.next (Below.refl _ WG).drew)
  go_simp
  go_at_call 72
  refine (HNE.out _ (HE.out.below HQ4.out.bel)).mono ?_
  rintro e w5 ⟨rfl, hb⟩
  replace HQ4 := Lib.hid (HQ4.out.next hb)
  clear hb
  refine hK.out _ _ (⟨HQ4.out.raw.at_ 19 _ rfl, HQ4.out.key, HQ4.out.ent⟩) (fun hH => ?_)
  clear hK K
  try simp only [Act.put, List.setIfInBounds_toArray, List.set_cons_zero, List.set_cons_succ]
  refine wpAnyH_take (i := 12) (oi := ⟨some 52, _, _, _, _, _⟩) (v := ?v112) rfl (by kernel_rfl) (by kernel_rfl) (by kernel_rfl) (fun _ _ _ h => h) (Or.inl ⟨rfl, ?c112⟩) hH ?r112
  case c112 => (intro w' _; go_simp; (try with_reducible rfl))
  try simp only [Act.put, List.setIfInBounds_toArray, List.set_cons_zero, List.set_cons_succ]
  refine wpAnyH_ready (rs := [13]) (by kernel_rfl) (by simp) (AllReadyH.cons rfl (fun K hK => ?_) (AllReadyH.nil))
  obtain ⟨WD, hD, HM, ho⟩ := HPU2.out w5 HQ4.out.raw.map
  have HO := Lib.hid ho
  go_simp
  have HR6 := Lib.hid (HQ4.out.raw.turn HO.out HM)
  have HO6 := Lib.hid ((Only.of_below HQ4.out.bel : Only O w w5).trans HO.out (fun j e => .inl (e ▸ HOM.out)))
  have hne : w.heap.size ≠ M := fun e => by have := HL.out _ HOM.out; omega
  have hne1 : w.heap.size + 1 ≠ M := fun e => by have := HL.out _ HOM.out; omega
  clear HM ho hD
  refine hK.out _ _ (⟨HR6.out.at_ 19 _ rfl, Blk.only HQ4.out.key HO.out hne, Blk.only HQ4.out.ent HO.out hne1⟩) (fun hH => ?_)
  clear hK K
  clear hne hne1
  try simp only [Act.put, List.setIfInBounds_toArray, List.set_cons_zero, List.set_cons_succ]
  refine wpAnyH_done (by kernel_rfl) ?_ _
  
  have HRAW := Lib.hid (HQ3.out.raw)
  clear hH
  go_wp2_with fail
  go_ret
  exact ⟨rfl, HR6.out, HO6.out⟩
end Au
end Go.Proofs.YtgcnhbjoalemlaaGreatDoor
/- Layer 18: the contract of open. (Written by wip/tools/mkAutO.py.) -/
set_option linter.unusedVariables false
set_option linter.unusedSimpArgs false
set_option maxRecDepth 100000
namespace Go.Proofs.YtgcnhbjoalemlaaGreatDoor
open Go.ChangeShapes Go.WideShapes Go.ChangeAt Go.RowKit Go.Mtl Go.Lib
namespace Au
open AutM
open RulM (R)
open MatM (K fst accB idxI)

/-- The firewall, a key and a packet in blocks of the call's own, what was there before. -/
structure OQ (w0 : World) (O : Nat → Prop) (B M : Nat) (N : Int) (T : Nat → Int) (x : Int) (li : Value) (rl : List R) (fs : List Fl) (t : Nat → Int) (k : Ke) (p : K) (w : World) : Prop where
  raw : Raw w O B M N T x li rl fs t
  key : Blk w w0.heap.size (Ky.kyc k.a k.b k.p k.q k.r) 45
  pck : Blk w (w0.heap.size + 1) (Ma.pK p) 41
  bel : Below w0.heap.size w0 w
theorem OQ.next {w0 w w' : World} {O : Nat → Prop} {B M : Nat} {N : Int} {T : Nat → Int} {x : Int} {li : Value} {rl : List R} {fs : List Fl} {t : Nat → Int} {k : Ke} {p : K} (H : OQ w0 O B M N T x li rl fs t k p w) (hb : Below w.heap.size w w') : OQ w0 O B M N T x li rl fs t k p w' :=
  ⟨H.raw.next hb, H.key.next hb, H.pck.next hb, H.bel.trans (hb.mono H.bel.size)⟩
theorem OQ.start {w : World} {O : Nat → Prop} {B M : Nat} {N : Int} {T : Nat → Int} {x : Int} {li : Value} {rl : List R} {fs : List Fl} {t : Nat → Int} (H : Raw w O B M N T x li rl fs t) (k : Ke) (p : K) :
    OQ w O B M N T x li rl fs t k p ((w.alloc (.cells (Ky.kyc k.a k.b k.p k.q k.r) 45)).alloc (.cells (Ma.pK p) 41)) :=
  ⟨(H.alloc _).alloc _, (Blk.box _ _ _).alloc _, Blk.box1 _ _ _ _, (below_box w _).alloc (by simp) _⟩
theorem OQ.drew {w0 w : World} {O : Nat → Prop} {B M : Nat} {N : Int} {T : Nat → Int} {x : Int} {li : Value} {rl : List R} {fs : List Fl} {t : Nat → Int} {k : Ke} {p : K} (H : OQ w0 O B M N T x li rl fs t k p w) : OQ w0 O B M N T x li rl fs t k p w.drew := H.next (Below.refl _ w).drew

set_option maxHeartbeats 1000000 in
theorem open_denied {w : World} {O : Nat → Prop} {B M : Nat} {N : Int} {T : Nat → Int} {c g v : Int} {li : Value} {rl : List R} {fs : List Fl} {t : Nat → Int} (H : Raw w O B M N T (GatM.gI c g v) li rl fs t) (he : Env w) (hf : GatM.Fit c g v) (hrl : ∀ r ∈ rl, r.Ok) (k : Ke) (dn : Bool) (p : K) (hp : p.Ok) (hac : accB rl (fst p rl) = false) :
    Calls Tryz.prog 40 #[ptr B, kyV k, .bool dn, .agg (Ma.pK p)] w fun e w' => e = .returned (.int .i64 3) ∧  Below w.heap.size w w' := by
  obtain ⟨x, hx⟩ : ∃ x, x = GatM.gI c g v := ⟨_, rfl⟩
  obtain ⟨A, cap, hli, hc1, hc2⟩ := H.rds.len
  have HFI : Hid (∀ W, Raw W O B M N T x li rl fs t → Calls Tryz.prog 73 #[li, .agg (Ma.pK p)] W fun e w' => e = .returned (.tuple #[.int .i64 (idxI (fst p rl)), .bool false]) ∧ Below W.heap.size W w') := fun W h => by
    have h2 := Ma.first_any A rl.length cap rl p hp W rfl (hli ▸ h.rds) hrl (by omega)
    rw [hac] at h2
    rw [hli]; exact h2
  generalize idxI (fst p rl) = ix at HFI
  have HOP : Hid (∀ W, Calls Tryz.prog 74 #[.agg (Ma.pK p)] W fun e w' => e = .returned (.tuple #[.int .i64 (Fs.opN (p.pr : Int) (p.fl : Int) (p.kd : Int)), .bool (Fs.opB (p.pr : Int) (p.fl : Int) (p.kd : Int))]) ∧ Below W.heap.size W w') := fun W =>
    Fs.open_any (p.pr : Int) (p.sr : Int) (p.ds : Int) (p.sp : Int) (p.dp : Int) (p.fl : Int) (p.kd : Int) (by have := hp.fl; omega) W
  have HE := Lib.hid he
  rw [← hx] at H
  have HQ := Lib.hid (OQ.start H k p)
  clear H he hf hx hli hc1 hc2 hrl hp hac
  go_enter Tryz.func40, Tryz.ntmps40
  go_wp2_with fail
  obtain ⟨WZ, hWZ⟩ : ∃ v, v = (w.alloc (.cells (Ky.kyc k.a k.b k.p k.q k.r) 45)).alloc (.cells (Ma.pK p) 41) := ⟨_, rfl⟩
  rw [← hWZ] at HQ
  simp only [← hWZ]
  clear hWZ
  refine wp_region_held_drew (S := fun w' => OQ w O B M N T x li rl fs t k p w') (by kernel_rfl) (HQ.out.drew) (fun hH => ?_)
  refine wpAnyH_take (i := 0) (oi := ⟨some 15, _, _, _, _, _⟩) (v := ?v1) rfl (by kernel_rfl) (by kernel_rfl) (by kernel_rfl) (fun _ _ _ h => h) (Or.inl ⟨rfl, ?c1⟩) hH ?r1
  case c1 => (intro w' _; go_simp; (try with_reducible rfl))
  try simp only [Act.put, List.setIfInBounds_toArray, List.set_cons_zero, List.set_cons_succ]
  refine wpAnyH_take (i := 1) (oi := ⟨some 16, _, _, _, _, _⟩) (v := ?v2) rfl (by kernel_rfl) (by kernel_rfl) (by kernel_rfl) (fun _ _ _ h => h) (Or.inl ⟨rfl, ?c2⟩) hH ?r2
  case c2 => (intro w' _; go_simp; (try with_reducible rfl))
  try simp only [Act.put, List.setIfInBounds_toArray, List.set_cons_zero, List.set_cons_succ]
  refine wpAnyH_take (i := 2) (oi := ⟨some 17, _, _, _, _, _⟩) (v := ?v3) rfl (by kernel_rfl) (by kernel_rfl) (by kernel_rfl) (fun _ _ _ h => h) (Or.inl ⟨rfl, ?c3⟩) hH ?r3
  case c3 => (intro w' _; go_simp; (try with_reducible rfl))
  try simp only [Act.put, List.setIfInBounds_toArray, List.set_cons_zero, List.set_cons_succ]
  refine wpAnyH_take (i := 3) (oi := ⟨some 18, _, _, _, _, _⟩) (v := ?v4) rfl (by kernel_rfl) (by kernel_rfl) (by kernel_rfl) (fun _ _ _ h => h) (Or.inl ⟨rfl, ?c4⟩) hH ?r4
  case c4 => (intro w' hS; have c18 := hS.raw.at_ 18 _ rfl; go_simp; (try with_reducible rfl))
  try simp only [Act.put, List.setIfInBounds_toArray, List.set_cons_zero, List.set_cons_succ]
  refine wpAnyH_take (i := 4) (oi := ⟨some 19, _, _, _, _, _⟩) (v := ?v5) rfl (by kernel_rfl) (by kernel_rfl) (by kernel_rfl) (fun _ _ _ h => h) (Or.inl ⟨rfl, ?c5⟩) hH ?r5
  case c5 => (intro w' hS; obtain ⟨p0, p1, p2, p3, p4, p5, p6⟩ := Fs.pk_cells hS.pck; go_simp; (try with_reducible rfl))
  try simp only [Act.put, List.setIfInBounds_toArray, List.set_cons_zero, List.set_cons_succ]
  refine wpAnyH_ready (rs := [5]) (by kernel_rfl) (by simp) (AllReadyH.cons rfl (fun K hK => ?_) (AllReadyH.nil))
  go_simp
  go_at_call 73
  refine (HFI.out _ hH.raw).mono ?_
  rintro e w1 ⟨rfl, hbp⟩
  refine hK.out _ _ (hH.next hbp) (fun hH => ?_)
  clear hK K
  clear hbp
  try simp only [Act.put, List.setIfInBounds_toArray, List.set_cons_zero, List.set_cons_succ]
  refine wpAnyH_take (i := 6) (oi := ⟨some 14, _, _, _, _, _⟩) (v := ?v6) rfl (by kernel_rfl) (by kernel_rfl) (by kernel_rfl) (fun _ _ _ h => h) (Or.inl ⟨rfl, ?c6⟩) hH ?r6
  case c6 => (intro w' _; go_simp; (try with_reducible rfl))
  try simp only [Act.put, List.setIfInBounds_toArray, List.set_cons_zero, List.set_cons_succ]
  refine wpAnyH_take (i := 7) (oi := ⟨some 21, _, _, _, _, _⟩) (v := ?v7) rfl (by kernel_rfl) (by kernel_rfl) (by kernel_rfl) (fun _ _ _ h => h) (Or.inl ⟨rfl, ?c7⟩) hH ?r7
  case c7 => (intro w' _; go_simp; (try with_reducible rfl))
  try simp only [Act.put, List.setIfInBounds_toArray, List.set_cons_zero, List.set_cons_succ]
  refine wpAnyH_take (i := 8) (oi := ⟨some 22, _, _, _, _, _⟩) (v := ?v8) rfl (by kernel_rfl) (by kernel_rfl) (by kernel_rfl) (fun _ _ _ h => h) (Or.inl ⟨rfl, ?c8⟩) hH ?r8
  case c8 => (intro w' _; go_simp; (try with_reducible rfl))
  try simp only [Act.put, List.setIfInBounds_toArray, List.set_cons_zero, List.set_cons_succ]
  refine wpAnyH_take (i := 9) (oi := ⟨some 9, _, _, _, _, _⟩) (v := ?v9) rfl (by kernel_rfl) (by kernel_rfl) (by kernel_rfl) (fun _ _ _ h => h) (Or.inl ⟨rfl, ?c9⟩) hH ?r9
  case c9 => (intro w' _; go_simp; (try with_reducible rfl))
  try simp only [Act.put, List.setIfInBounds_toArray, List.set_cons_zero, List.set_cons_succ]
  refine wpAnyH_take (i := 10) (oi := ⟨some 10, _, _, _, _, _⟩) (v := ?v10) rfl (by kernel_rfl) (by kernel_rfl) (by kernel_rfl) (fun _ _ _ h => h) (Or.inl ⟨rfl, ?c10⟩) hH ?r10
  case c10 => (intro w' _; go_simp; (try with_reducible rfl))
  try simp only [Act.put, List.setIfInBounds_toArray, List.set_cons_zero, List.set_cons_succ]
  refine wpAnyH_done (by kernel_rfl) ?_ _
  
  have HQ2 := Lib.hid hH
  obtain ⟨p0, p1, p2, p3, p4, p5, p6⟩ := Fs.pk_cells HQ2.out.pck
  clear hH
  go_wp2_with fail
  go_ret
  exact ⟨rfl, HQ2.out.bel⟩

set_option maxHeartbeats 1000000 in
theorem open_invalid {w : World} {O : Nat → Prop} {B M : Nat} {N : Int} {T : Nat → Int} {c g v : Int} {li : Value} {rl : List R} {fs : List Fl} {t : Nat → Int} (H : Raw w O B M N T (GatM.gI c g v) li rl fs t) (he : Env w) (hf : GatM.Fit c g v) (hrl : ∀ r ∈ rl, r.Ok) (k : Ke) (dn : Bool) (p : K) (hp : p.Ok) (hac : accB rl (fst p rl) = true) (hop : Fs.opB (p.pr : Int) (p.fl : Int) (p.kd : Int) = false) :
    Calls Tryz.prog 40 #[ptr B, kyV k, .bool dn, .agg (Ma.pK p)] w fun e w' => e = .returned (.int .i64 4) ∧  Below w.heap.size w w' := by
  obtain ⟨x, hx⟩ : ∃ x, x = GatM.gI c g v := ⟨_, rfl⟩
  obtain ⟨A, cap, hli, hc1, hc2⟩ := H.rds.len
  have HFI : Hid (∀ W, Raw W O B M N T x li rl fs t → Calls Tryz.prog 73 #[li, .agg (Ma.pK p)] W fun e w' => e = .returned (.tuple #[.int .i64 (idxI (fst p rl)), .bool true]) ∧ Below W.heap.size W w') := fun W h => by
    have h2 := Ma.first_any A rl.length cap rl p hp W rfl (hli ▸ h.rds) hrl (by omega)
    rw [hac] at h2
    rw [hli]; exact h2
  generalize idxI (fst p rl) = ix at HFI
  have HOP : Hid (∀ W, Calls Tryz.prog 74 #[.agg (Ma.pK p)] W fun e w' => e = .returned (.tuple #[.int .i64 (Fs.opN (p.pr : Int) (p.fl : Int) (p.kd : Int)), .bool (Fs.opB (p.pr : Int) (p.fl : Int) (p.kd : Int))]) ∧ Below W.heap.size W w') := fun W =>
    Fs.open_any (p.pr : Int) (p.sr : Int) (p.ds : Int) (p.sp : Int) (p.dp : Int) (p.fl : Int) (p.kd : Int) (by have := hp.fl; omega) W
  rw [hop] at HOP
  generalize Fs.opN (p.pr : Int) (p.fl : Int) (p.kd : Int) = nx at HOP
  have HE := Lib.hid he
  rw [← hx] at H
  have HQ := Lib.hid (OQ.start H k p)
  clear H he hf hx hli hc1 hc2 hrl hp hac hop
  go_enter Tryz.func40, Tryz.ntmps40
  go_wp2_with fail
  obtain ⟨WZ, hWZ⟩ : ∃ v, v = (w.alloc (.cells (Ky.kyc k.a k.b k.p k.q k.r) 45)).alloc (.cells (Ma.pK p) 41) := ⟨_, rfl⟩
  rw [← hWZ] at HQ
  simp only [← hWZ]
  clear hWZ
  refine wp_region_held_drew (S := fun w' => OQ w O B M N T x li rl fs t k p w') (by kernel_rfl) (HQ.out.drew) (fun hH => ?_)
  refine wpAnyH_take (i := 0) (oi := ⟨some 15, _, _, _, _, _⟩) (v := ?v1) rfl (by kernel_rfl) (by kernel_rfl) (by kernel_rfl) (fun _ _ _ h => h) (Or.inl ⟨rfl, ?c1⟩) hH ?r1
  case c1 => (intro w' _; go_simp; (try with_reducible rfl))
  try simp only [Act.put, List.setIfInBounds_toArray, List.set_cons_zero, List.set_cons_succ]
  refine wpAnyH_take (i := 1) (oi := ⟨some 16, _, _, _, _, _⟩) (v := ?v2) rfl (by kernel_rfl) (by kernel_rfl) (by kernel_rfl) (fun _ _ _ h => h) (Or.inl ⟨rfl, ?c2⟩) hH ?r2
  case c2 => (intro w' _; go_simp; (try with_reducible rfl))
  try simp only [Act.put, List.setIfInBounds_toArray, List.set_cons_zero, List.set_cons_succ]
  refine wpAnyH_take (i := 2) (oi := ⟨some 17, _, _, _, _, _⟩) (v := ?v3) rfl (by kernel_rfl) (by kernel_rfl) (by kernel_rfl) (fun _ _ _ h => h) (Or.inl ⟨rfl, ?c3⟩) hH ?r3
  case c3 => (intro w' _; go_simp; (try with_reducible rfl))
  try simp only [Act.put, List.setIfInBounds_toArray, List.set_cons_zero, List.set_cons_succ]
  refine wpAnyH_take (i := 3) (oi := ⟨some 18, _, _, _, _, _⟩) (v := ?v4) rfl (by kernel_rfl) (by kernel_rfl) (by kernel_rfl) (fun _ _ _ h => h) (Or.inl ⟨rfl, ?c4⟩) hH ?r4
  case c4 => (intro w' hS; have c18 := hS.raw.at_ 18 _ rfl; go_simp; (try with_reducible rfl))
  try simp only [Act.put, List.setIfInBounds_toArray, List.set_cons_zero, List.set_cons_succ]
  refine wpAnyH_take (i := 4) (oi := ⟨some 19, _, _, _, _, _⟩) (v := ?v5) rfl (by kernel_rfl) (by kernel_rfl) (by kernel_rfl) (fun _ _ _ h => h) (Or.inl ⟨rfl, ?c5⟩) hH ?r5
  case c5 => (intro w' hS; obtain ⟨p0, p1, p2, p3, p4, p5, p6⟩ := Fs.pk_cells hS.pck; go_simp; (try with_reducible rfl))
  try simp only [Act.put, List.setIfInBounds_toArray, List.set_cons_zero, List.set_cons_succ]
  refine wpAnyH_ready (rs := [5]) (by kernel_rfl) (by simp) (AllReadyH.cons rfl (fun K hK => ?_) (AllReadyH.nil))
  go_simp
  go_at_call 73
  refine (HFI.out _ hH.raw).mono ?_
  rintro e w1 ⟨rfl, hbp⟩
  refine hK.out _ _ (hH.next hbp) (fun hH => ?_)
  clear hK K
  clear hbp
  try simp only [Act.put, List.setIfInBounds_toArray, List.set_cons_zero, List.set_cons_succ]
  refine wpAnyH_take (i := 6) (oi := ⟨some 14, _, _, _, _, _⟩) (v := ?v6) rfl (by kernel_rfl) (by kernel_rfl) (by kernel_rfl) (fun _ _ _ h => h) (Or.inl ⟨rfl, ?c6⟩) hH ?r6
  case c6 => (intro w' _; go_simp; (try with_reducible rfl))
  try simp only [Act.put, List.setIfInBounds_toArray, List.set_cons_zero, List.set_cons_succ]
  refine wpAnyH_take (i := 7) (oi := ⟨some 21, _, _, _, _, _⟩) (v := ?v7) rfl (by kernel_rfl) (by kernel_rfl) (by kernel_rfl) (fun _ _ _ h => h) (Or.inl ⟨rfl, ?c7⟩) hH ?r7
  case c7 => (intro w' _; go_simp; (try with_reducible rfl))
  try simp only [Act.put, List.setIfInBounds_toArray, List.set_cons_zero, List.set_cons_succ]
  refine wpAnyH_take (i := 8) (oi := ⟨some 22, _, _, _, _, _⟩) (v := ?v8) rfl (by kernel_rfl) (by kernel_rfl) (by kernel_rfl) (fun _ _ _ h => h) (Or.inl ⟨rfl, ?c8⟩) hH ?r8
  case c8 => (intro w' _; go_simp; (try with_reducible rfl))
  try simp only [Act.put, List.setIfInBounds_toArray, List.set_cons_zero, List.set_cons_succ]
  refine wpAnyH_take (i := 9) (oi := ⟨some 9, _, _, _, _, _⟩) (v := ?v9) rfl (by kernel_rfl) (by kernel_rfl) (by kernel_rfl) (fun _ _ _ h => h) (Or.inl ⟨rfl, ?c9⟩) hH ?r9
  case c9 => (intro w' _; go_simp; (try with_reducible rfl))
  try simp only [Act.put, List.setIfInBounds_toArray, List.set_cons_zero, List.set_cons_succ]
  refine wpAnyH_take (i := 10) (oi := ⟨some 10, _, _, _, _, _⟩) (v := ?v10) rfl (by kernel_rfl) (by kernel_rfl) (by kernel_rfl) (fun _ _ _ h => h) (Or.inl ⟨rfl, ?c10⟩) hH ?r10
  case c10 => (intro w' _; go_simp; (try with_reducible rfl))
  try simp only [Act.put, List.setIfInBounds_toArray, List.set_cons_zero, List.set_cons_succ]
  refine wpAnyH_done (by kernel_rfl) ?_ _
  
  have HQ2 := Lib.hid hH
  obtain ⟨p0, p1, p2, p3, p4, p5, p6⟩ := Fs.pk_cells HQ2.out.pck
  clear hH
  go_wp2_with fail
  go_at_call 74
  refine (HOP.out _).mono ?_
  rintro e w2 ⟨rfl, hb⟩
  have HQ3 := Lib.hid (HQ2.out.next hb)
  clear hb p0 p1 p2 p3 p4 p5 p6
  go_wp2_with fail
  go_ret
  exact ⟨rfl, HQ3.out.bel⟩

set_option maxHeartbeats 1000000 in
theorem open_full {w : World} {O : Nat → Prop} {B M : Nat} {N : Int} {T : Nat → Int} {c g v : Int} {li : Value} {rl : List R} {fs : List Fl} {t : Nat → Int} (H : Raw w O B M N T (GatM.gI c g v) li rl fs t) (he : Env w) (hf : GatM.Fit c g v) (hrl : ∀ r ∈ rl, r.Ok) (k : Ke) (dn : Bool) (p : K) (hp : p.Ok) (hac : accB rl (fst p rl) = true) (hop : Fs.opB (p.pr : Int) (p.fl : Int) (p.kd : Int) = true) (hg : N ≤ g) :
    Calls Tryz.prog 40 #[ptr B, kyV k, .bool dn, .agg (Ma.pK p)] w fun e w' => e = .returned (.int .i64 5) ∧  Below w.heap.size w w' := by
  obtain ⟨x, hx⟩ : ∃ x, x = GatM.gI c g v := ⟨_, rfl⟩
  obtain ⟨A, cap, hli, hc1, hc2⟩ := H.rds.len
  have HFI : Hid (∀ W, Raw W O B M N T x li rl fs t → Calls Tryz.prog 73 #[li, .agg (Ma.pK p)] W fun e w' => e = .returned (.tuple #[.int .i64 (idxI (fst p rl)), .bool true]) ∧ Below W.heap.size W w') := fun W h => by
    have h2 := Ma.first_any A rl.length cap rl p hp W rfl (hli ▸ h.rds) hrl (by omega)
    rw [hac] at h2
    rw [hli]; exact h2
  generalize idxI (fst p rl) = ix at HFI
  have HOP : Hid (∀ W, Calls Tryz.prog 74 #[.agg (Ma.pK p)] W fun e w' => e = .returned (.tuple #[.int .i64 (Fs.opN (p.pr : Int) (p.fl : Int) (p.kd : Int)), .bool (Fs.opB (p.pr : Int) (p.fl : Int) (p.kd : Int))]) ∧ Below W.heap.size W w') := fun W =>
    Fs.open_any (p.pr : Int) (p.sr : Int) (p.ds : Int) (p.sp : Int) (p.dp : Int) (p.fl : Int) (p.kd : Int) (by have := hp.fl; omega) W
  rw [hop] at HOP
  generalize Fs.opN (p.pr : Int) (p.fl : Int) (p.kd : Int) = nx at HOP
  have HEN : Hid (∀ W, Env W → Calls Tryz.prog 75 #[.int .u64 x, .int .i64 N] W fun e w' => e = .returned (.tuple #[.int .u64 x, .bool false]) ∧ Below W.heap.size W w') := fun W e => by
    rw [hx]; exact Ga.enter_any hf (.inr ⟨rfl, rfl, .inl hg⟩) W e.ga
  have HE := Lib.hid he
  rw [← hx] at H
  have HQ := Lib.hid (OQ.start H k p)
  clear H he hf hx hli hc1 hc2 hrl hp hac hop hg
  go_enter Tryz.func40, Tryz.ntmps40
  go_wp2_with fail
  obtain ⟨WZ, hWZ⟩ : ∃ v, v = (w.alloc (.cells (Ky.kyc k.a k.b k.p k.q k.r) 45)).alloc (.cells (Ma.pK p) 41) := ⟨_, rfl⟩
  rw [← hWZ] at HQ
  simp only [← hWZ]
  clear hWZ
  refine wp_region_held_drew (S := fun w' => OQ w O B M N T x li rl fs t k p w') (by kernel_rfl) (HQ.out.drew) (fun hH => ?_)
  refine wpAnyH_take (i := 0) (oi := ⟨some 15, _, _, _, _, _⟩) (v := ?v1) rfl (by kernel_rfl) (by kernel_rfl) (by kernel_rfl) (fun _ _ _ h => h) (Or.inl ⟨rfl, ?c1⟩) hH ?r1
  case c1 => (intro w' _; go_simp; (try with_reducible rfl))
  try simp only [Act.put, List.setIfInBounds_toArray, List.set_cons_zero, List.set_cons_succ]
  refine wpAnyH_take (i := 1) (oi := ⟨some 16, _, _, _, _, _⟩) (v := ?v2) rfl (by kernel_rfl) (by kernel_rfl) (by kernel_rfl) (fun _ _ _ h => h) (Or.inl ⟨rfl, ?c2⟩) hH ?r2
  case c2 => (intro w' _; go_simp; (try with_reducible rfl))
  try simp only [Act.put, List.setIfInBounds_toArray, List.set_cons_zero, List.set_cons_succ]
  refine wpAnyH_take (i := 2) (oi := ⟨some 17, _, _, _, _, _⟩) (v := ?v3) rfl (by kernel_rfl) (by kernel_rfl) (by kernel_rfl) (fun _ _ _ h => h) (Or.inl ⟨rfl, ?c3⟩) hH ?r3
  case c3 => (intro w' _; go_simp; (try with_reducible rfl))
  try simp only [Act.put, List.setIfInBounds_toArray, List.set_cons_zero, List.set_cons_succ]
  refine wpAnyH_take (i := 3) (oi := ⟨some 18, _, _, _, _, _⟩) (v := ?v4) rfl (by kernel_rfl) (by kernel_rfl) (by kernel_rfl) (fun _ _ _ h => h) (Or.inl ⟨rfl, ?c4⟩) hH ?r4
  case c4 => (intro w' hS; have c18 := hS.raw.at_ 18 _ rfl; go_simp; (try with_reducible rfl))
  try simp only [Act.put, List.setIfInBounds_toArray, List.set_cons_zero, List.set_cons_succ]
  refine wpAnyH_take (i := 4) (oi := ⟨some 19, _, _, _, _, _⟩) (v := ?v5) rfl (by kernel_rfl) (by kernel_rfl) (by kernel_rfl) (fun _ _ _ h => h) (Or.inl ⟨rfl, ?c5⟩) hH ?r5
  case c5 => (intro w' hS; obtain ⟨p0, p1, p2, p3, p4, p5, p6⟩ := Fs.pk_cells hS.pck; go_simp; (try with_reducible rfl))
  try simp only [Act.put, List.setIfInBounds_toArray, List.set_cons_zero, List.set_cons_succ]
  refine wpAnyH_ready (rs := [5]) (by kernel_rfl) (by simp) (AllReadyH.cons rfl (fun K hK => ?_) (AllReadyH.nil))
  go_simp
  go_at_call 73
  refine (HFI.out _ hH.raw).mono ?_
  rintro e w1 ⟨rfl, hbp⟩
  refine hK.out _ _ (hH.next hbp) (fun hH => ?_)
  clear hK K
  clear hbp
  try simp only [Act.put, List.setIfInBounds_toArray, List.set_cons_zero, List.set_cons_succ]
  refine wpAnyH_take (i := 6) (oi := ⟨some 14, _, _, _, _, _⟩) (v := ?v6) rfl (by kernel_rfl) (by kernel_rfl) (by kernel_rfl) (fun _ _ _ h => h) (Or.inl ⟨rfl, ?c6⟩) hH ?r6
  case c6 => (intro w' _; go_simp; (try with_reducible rfl))
  try simp only [Act.put, List.setIfInBounds_toArray, List.set_cons_zero, List.set_cons_succ]
  refine wpAnyH_take (i := 7) (oi := ⟨some 21, _, _, _, _, _⟩) (v := ?v7) rfl (by kernel_rfl) (by kernel_rfl) (by kernel_rfl) (fun _ _ _ h => h) (Or.inl ⟨rfl, ?c7⟩) hH ?r7
  case c7 => (intro w' _; go_simp; (try with_reducible rfl))
  try simp only [Act.put, List.setIfInBounds_toArray, List.set_cons_zero, List.set_cons_succ]
  refine wpAnyH_take (i := 8) (oi := ⟨some 22, _, _, _, _, _⟩) (v := ?v8) rfl (by kernel_rfl) (by kernel_rfl) (by kernel_rfl) (fun _ _ _ h => h) (Or.inl ⟨rfl, ?c8⟩) hH ?r8
  case c8 => (intro w' _; go_simp; (try with_reducible rfl))
  try simp only [Act.put, List.setIfInBounds_toArray, List.set_cons_zero, List.set_cons_succ]
  refine wpAnyH_take (i := 9) (oi := ⟨some 9, _, _, _, _, _⟩) (v := ?v9) rfl (by kernel_rfl) (by kernel_rfl) (by kernel_rfl) (fun _ _ _ h => h) (Or.inl ⟨rfl, ?c9⟩) hH ?r9
  case c9 => (intro w' _; go_simp; (try with_reducible rfl))
  try simp only [Act.put, List.setIfInBounds_toArray, List.set_cons_zero, List.set_cons_succ]
  refine wpAnyH_take (i := 10) (oi := ⟨some 10, _, _, _, _, _⟩) (v := ?v10) rfl (by kernel_rfl) (by kernel_rfl) (by kernel_rfl) (fun _ _ _ h => h) (Or.inl ⟨rfl, ?c10⟩) hH ?r10
  case c10 => (intro w' _; go_simp; (try with_reducible rfl))
  try simp only [Act.put, List.setIfInBounds_toArray, List.set_cons_zero, List.set_cons_succ]
  refine wpAnyH_done (by kernel_rfl) ?_ _
  
  have HQ2 := Lib.hid hH
  obtain ⟨p0, p1, p2, p3, p4, p5, p6⟩ := Fs.pk_cells HQ2.out.pck
  clear hH
  go_wp2_with fail
  go_at_call 74
  refine (HOP.out _).mono ?_
  rintro e w2 ⟨rfl, hb⟩
  have HQ3 := Lib.hid (HQ2.out.next hb)
  clear hb p0 p1 p2 p3 p4 p5 p6
  go_wp2_with fail
  refine wp_region_held_drew (S := fun w' => OQ w O B M N T x li rl fs t k p w') (by kernel_rfl) (HQ3.out.drew) (fun hH => ?_)
  refine wpAnyH_take (i := 0) (oi := ⟨some 33, _, _, _, _, _⟩) (v := ?v101) rfl (by kernel_rfl) (by kernel_rfl) (by kernel_rfl) (fun _ _ _ h => h) (Or.inl ⟨rfl, ?c101⟩) hH ?r101
  case c101 => (intro w' _; go_simp; (try with_reducible rfl))
  try simp only [Act.put, List.setIfInBounds_toArray, List.set_cons_zero, List.set_cons_succ]
  refine wpAnyH_take (i := 1) (oi := ⟨some 34, _, _, _, _, _⟩) (v := ?v102) rfl (by kernel_rfl) (by kernel_rfl) (by kernel_rfl) (fun _ _ _ h => h) (Or.inl ⟨rfl, ?c102⟩) hH ?r102
  case c102 => (intro w' _; go_simp; (try with_reducible rfl))
  try simp only [Act.put, List.setIfInBounds_toArray, List.set_cons_zero, List.set_cons_succ]
  refine wpAnyH_take (i := 2) (oi := ⟨some 35, _, _, _, _, _⟩) (v := ?v103) rfl (by kernel_rfl) (by kernel_rfl) (by kernel_rfl) (fun _ _ _ h => h) (Or.inl ⟨rfl, ?c103⟩) hH ?r103
  case c103 => (intro w' _; go_simp; (try with_reducible rfl))
  try simp only [Act.put, List.setIfInBounds_toArray, List.set_cons_zero, List.set_cons_succ]
  refine wpAnyH_take (i := 3) (oi := ⟨some 36, _, _, _, _, _⟩) (v := ?v104) rfl (by kernel_rfl) (by kernel_rfl) (by kernel_rfl) (fun _ _ _ h => h) (Or.inl ⟨rfl, ?c104⟩) hH ?r104
  case c104 => (intro w' hS; have c17 := hS.raw.at_ 17 _ rfl; go_simp; (try with_reducible rfl))
  try simp only [Act.put, List.setIfInBounds_toArray, List.set_cons_zero, List.set_cons_succ]
  refine wpAnyH_take (i := 4) (oi := ⟨some 37, _, _, _, _, _⟩) (v := ?v105) rfl (by kernel_rfl) (by kernel_rfl) (by kernel_rfl) (fun _ _ _ h => h) (Or.inl ⟨rfl, ?c105⟩) hH ?r105
  case c105 => (intro w' _; go_simp; (try with_reducible rfl))
  try simp only [Act.put, List.setIfInBounds_toArray, List.set_cons_zero, List.set_cons_succ]
  refine wpAnyH_take (i := 5) (oi := ⟨some 38, _, _, _, _, _⟩) (v := ?v106) rfl (by kernel_rfl) (by kernel_rfl) (by kernel_rfl) (fun _ _ _ h => h) (Or.inl ⟨rfl, ?c106⟩) hH ?r106
  case c106 => (intro w' _; go_simp; (try with_reducible rfl))
  try simp only [Act.put, List.setIfInBounds_toArray, List.set_cons_zero, List.set_cons_succ]
  refine wpAnyH_take (i := 6) (oi := ⟨some 39, _, _, _, _, _⟩) (v := ?v107) rfl (by kernel_rfl) (by kernel_rfl) (by kernel_rfl) (fun _ _ _ h => h) (Or.inl ⟨rfl, ?c107⟩) hH ?r107
  case c107 => (intro w' _; go_simp; (try with_reducible rfl))
  try simp only [Act.put, List.setIfInBounds_toArray, List.set_cons_zero, List.set_cons_succ]
  refine wpAnyH_take (i := 7) (oi := ⟨some 40, _, _, _, _, _⟩) (v := ?v108) rfl (by kernel_rfl) (by kernel_rfl) (by kernel_rfl) (fun _ _ _ h => h) (Or.inl ⟨rfl, ?c108⟩) hH ?r108
  case c108 => (intro w' hS; have c0 := hS.raw.at_ 0 _ rfl; go_simp; (try with_reducible rfl))
  try simp only [Act.put, List.setIfInBounds_toArray, List.set_cons_zero, List.set_cons_succ]
  refine wpAnyH_ready (rs := [8]) (by kernel_rfl) (by simp) (AllReadyH.cons rfl (fun K hK => ?_) (AllReadyH.nil))
  go_simp
  go_at_call 75
  refine (HEN.out _ (HE.out.below hH.bel)).mono ?_
  rintro e w4 ⟨rfl, hbp⟩
  refine hK.out _ _ (hH.next hbp) (fun hH => ?_)
  clear hK K
  clear hbp
  try simp only [Act.put, List.setIfInBounds_toArray, List.set_cons_zero, List.set_cons_succ]
  refine wpAnyH_take (i := 9) (oi := ⟨some 32, _, _, _, _, _⟩) (v := ?v109) rfl (by kernel_rfl) (by kernel_rfl) (by kernel_rfl) (fun _ _ _ h => h) (Or.inl ⟨rfl, ?c109⟩) hH ?r109
  case c109 => (intro w' _; go_simp; (try with_reducible rfl))
  try simp only [Act.put, List.setIfInBounds_toArray, List.set_cons_zero, List.set_cons_succ]
  refine wpAnyH_take (i := 10) (oi := ⟨some 42, _, _, _, _, _⟩) (v := ?v110) rfl (by kernel_rfl) (by kernel_rfl) (by kernel_rfl) (fun _ _ _ h => h) (Or.inl ⟨rfl, ?c110⟩) hH ?r110
  case c110 => (intro w' _; go_simp; (try with_reducible rfl))
  try simp only [Act.put, List.setIfInBounds_toArray, List.set_cons_zero, List.set_cons_succ]
  refine wpAnyH_take (i := 11) (oi := ⟨some 43, _, _, _, _, _⟩) (v := ?v111) rfl (by kernel_rfl) (by kernel_rfl) (by kernel_rfl) (fun _ _ _ h => h) (Or.inl ⟨rfl, ?c111⟩) hH ?r111
  case c111 => (intro w' _; go_simp; (try with_reducible rfl))
  try simp only [Act.put, List.setIfInBounds_toArray, List.set_cons_zero, List.set_cons_succ]
  refine wpAnyH_take (i := 12) (oi := ⟨some 13, _, _, _, _, _⟩) (v := ?v112) rfl (by kernel_rfl) (by kernel_rfl) (by kernel_rfl) (fun _ _ _ h => h) (Or.inl ⟨rfl, ?c112⟩) hH ?r112
  case c112 => (intro w' _; go_simp; (try with_reducible rfl))
  try simp only [Act.put, List.setIfInBounds_toArray, List.set_cons_zero, List.set_cons_succ]
  refine wpAnyH_take (i := 13) (oi := ⟨some 12, _, _, _, _, _⟩) (v := ?v113) rfl (by kernel_rfl) (by kernel_rfl) (by kernel_rfl) (fun _ _ _ h => h) (Or.inl ⟨rfl, ?c113⟩) hH ?r113
  case c113 => (intro w' _; go_simp; (try with_reducible rfl))
  try simp only [Act.put, List.setIfInBounds_toArray, List.set_cons_zero, List.set_cons_succ]
  refine wpAnyH_done (by kernel_rfl) ?_ _
  
  clear HQ2 HQ3 HQ
  have HQ4 := Lib.hid hH
  clear hH
  go_wp2_with fail
  go_ret
  exact ⟨rfl, HQ4.out.bel⟩

set_option maxHeartbeats 2000000 in
theorem open_yes {w : World} {O : Nat → Prop} {B M : Nat} {N : Int} {T : Nat → Int} {c g v : Int} {li : Value} {rl : List R} {fs : List Fl} {t : Nat → Int} (H : Raw w O B M N T (GatM.gI c g v) li rl fs t) (he : Env w) (hf : GatM.Fit c g v) (htm : ∀ i, -9223372036854775808 ≤ T i ∧ T i ≤ 9223372036854775807) (ok : Oks fs) (hrl : ∀ r ∈ rl, r.Ok) (k : Ke) (dn : Bool) (p : K) (hp : p.Ok) (hac : accB rl (fst p rl) = true) (hop : Fs.opB (p.pr : Int) (p.fl : Int) (p.kd : Int) = true) (hg : ¬ N ≤ g) (hN : N ≤ 4095) (hk : find k fs = none)
    (nx u : Int) (hnx : Fs.opN (p.pr : Int) (p.fl : Int) (p.kd : Int) = nx) (hu : Fs.untN T nx c = u) (f' : Fl) (hf' : f' = { k := k, c := Fl.clip u, n := Fl.up 0, s := nx % 16, dn := dn }) :
    Calls Tryz.prog 40 #[ptr B, kyV k, .bool dn, .agg (Ma.pK p)] w fun e w' => e = .returned (.int .i64 1) ∧  Raw w' O B M N T (GatM.gI c (g + 1) v) li rl (ins f' fs) t ∧ Only O w w' := by
  have hf3 : GatM.Fit c (g + 1) v := ⟨hf.c0, hf.c1, by have := hf.k0; omega, by omega, hf.v0, hf.v1⟩
  have HOB := Lib.hid H.ob
  have HOM := Lib.hid H.om
  have HL := Lib.hid H.lt
  have HFAR := Lib.hid H.hi
  obtain ⟨x, hx⟩ : ∃ x, x = GatM.gI c g v := ⟨_, rfl⟩
  obtain ⟨A, cap, hli, hc1, hc2⟩ := H.rds.len
  have HFI : Hid (∀ W, Raw W O B M N T x li rl fs t → Calls Tryz.prog 73 #[li, .agg (Ma.pK p)] W fun e w' => e = .returned (.tuple #[.int .i64 (idxI (fst p rl)), .bool true]) ∧ Below W.heap.size W w') := fun W h => by
    have h2 := Ma.first_any A rl.length cap rl p hp W rfl (hli ▸ h.rds) hrl (by omega)
    rw [hac] at h2
    rw [hli]; exact h2
  generalize idxI (fst p rl) = ix at HFI
  have HOP : Hid (∀ W, Calls Tryz.prog 74 #[.agg (Ma.pK p)] W fun e w' => e = .returned (.tuple #[.int .i64 (Fs.opN (p.pr : Int) (p.fl : Int) (p.kd : Int)), .bool (Fs.opB (p.pr : Int) (p.fl : Int) (p.kd : Int))]) ∧ Below W.heap.size W w') := fun W =>
    Fs.open_any (p.pr : Int) (p.sr : Int) (p.ds : Int) (p.sp : Int) (p.dp : Int) (p.fl : Int) (p.kd : Int) (by have := hp.fl; omega) W
  rw [hop, hnx] at HOP
  obtain ⟨x', hx'⟩ : ∃ x', x' = GatM.gI c (g + 1) v := ⟨_, rfl⟩
  obtain ⟨y', hy'⟩ : ∃ y', y' = FloM.gI f'.c f'.n f'.s := ⟨_, rfl⟩
  have HEN : Hid (∀ W, Env W → Calls Tryz.prog 75 #[.int .u64 x, .int .i64 N] W fun e w' => e = .returned (.tuple #[.int .u64 x', .bool true]) ∧ Below W.heap.size W w') := fun W e => by
    rw [hx, hx']; exact Ga.enter_any hf (.inl ⟨rfl, rfl, hg, by omega⟩) W e.ga
  have HUN : Hid (∀ W, Raw W O B M N T x' li rl fs t → Env W → Calls Tryz.prog 71 #[ptr B, .int .i64 nx] W fun e w' => e = .returned (.int .i64 u) ∧ Below W.heap.size W w') := fun W h e => by
    rw [← hu]; exact until_any (hx' ▸ h) e hf3 htm nx
  have HNE : Hid (∀ W, Env W → Calls Tryz.prog 72 #[.int .u64 0, .int .i64 nx, .int .i64 u] W fun e w' => e = .returned (.int .u64 y') ∧ Below W.heap.size W w') := fun W e => by
    rw [hy', hf']; exact Ga.quiet_below (Fl.next_any (c := 0) (k := 0) (v := 0) ⟨by omega, by omega, by omega, by omega, by omega, by omega⟩ nx u W e.fl)
  have HPU : Hid (∀ w1, MapAt w1 M fs → ∃ w', (Instr.mapUpdate 56 (.map (some M)) (kyV k) (enW y' dn)).run Tryz.prog w1 = .ok () w' ∧ MapAt w' M (ins f' fs) ∧ Only (· = M) w1 w') := fun w1 h => by
    have h2 := run_ins h ok (g := f') (by rw [hf']; exact hk)
    have e1 : enW y' dn = enV f' := by rw [hy', hf']
    have e2 : k = f'.k := by rw [hf']
    rw [e1, e2]
    exact h2
  rw [← hx']
  have HE := Lib.hid he
  rw [← hx] at H
  have HQ := Lib.hid (OQ.start H k p)
  clear H he hf hx hli hc1 hc2 hrl hp hac hop hg hN hk hnx hu hf' hy' hf3 htm ok hx'
  go_enter Tryz.func40, Tryz.ntmps40
  go_wp2_with fail
  obtain ⟨WZ, hWZ⟩ : ∃ v, v = (w.alloc (.cells (Ky.kyc k.a k.b k.p k.q k.r) 45)).alloc (.cells (Ma.pK p) 41) := ⟨_, rfl⟩
  rw [← hWZ] at HQ
  simp only [← hWZ]
  clear hWZ
  refine wp_region_held_drew (S := fun w' => OQ w O B M N T x li rl fs t k p w') (by kernel_rfl) (HQ.out.drew) (fun hH => ?_)
  refine wpAnyH_take (i := 0) (oi := ⟨some 15, _, _, _, _, _⟩) (v := ?v1) rfl (by kernel_rfl) (by kernel_rfl) (by kernel_rfl) (fun _ _ _ h => h) (Or.inl ⟨rfl, ?c1⟩) hH ?r1
  case c1 => (intro w' _; go_simp; (try with_reducible rfl))
  try simp only [Act.put, List.setIfInBounds_toArray, List.set_cons_zero, List.set_cons_succ]
  refine wpAnyH_take (i := 1) (oi := ⟨some 16, _, _, _, _, _⟩) (v := ?v2) rfl (by kernel_rfl) (by kernel_rfl) (by kernel_rfl) (fun _ _ _ h => h) (Or.inl ⟨rfl, ?c2⟩) hH ?r2
  case c2 => (intro w' _; go_simp; (try with_reducible rfl))
  try simp only [Act.put, List.setIfInBounds_toArray, List.set_cons_zero, List.set_cons_succ]
  refine wpAnyH_take (i := 2) (oi := ⟨some 17, _, _, _, _, _⟩) (v := ?v3) rfl (by kernel_rfl) (by kernel_rfl) (by kernel_rfl) (fun _ _ _ h => h) (Or.inl ⟨rfl, ?c3⟩) hH ?r3
  case c3 => (intro w' _; go_simp; (try with_reducible rfl))
  try simp only [Act.put, List.setIfInBounds_toArray, List.set_cons_zero, List.set_cons_succ]
  refine wpAnyH_take (i := 3) (oi := ⟨some 18, _, _, _, _, _⟩) (v := ?v4) rfl (by kernel_rfl) (by kernel_rfl) (by kernel_rfl) (fun _ _ _ h => h) (Or.inl ⟨rfl, ?c4⟩) hH ?r4
  case c4 => (intro w' hS; have c18 := hS.raw.at_ 18 _ rfl; go_simp; (try with_reducible rfl))
  try simp only [Act.put, List.setIfInBounds_toArray, List.set_cons_zero, List.set_cons_succ]
  refine wpAnyH_take (i := 4) (oi := ⟨some 19, _, _, _, _, _⟩) (v := ?v5) rfl (by kernel_rfl) (by kernel_rfl) (by kernel_rfl) (fun _ _ _ h => h) (Or.inl ⟨rfl, ?c5⟩) hH ?r5
  case c5 => (intro w' hS; obtain ⟨p0, p1, p2, p3, p4, p5, p6⟩ := Fs.pk_cells hS.pck; go_simp; (try with_reducible rfl))
  try simp only [Act.put, List.setIfInBounds_toArray, List.set_cons_zero, List.set_cons_succ]
  refine wpAnyH_ready (rs := [5]) (by kernel_rfl) (by simp) (AllReadyH.cons rfl (fun K hK => ?_) (AllReadyH.nil))
  go_simp
  go_at_call 73
  refine (HFI.out _ hH.raw).mono ?_
  rintro e w1 ⟨rfl, hbp⟩
  refine hK.out _ _ (hH.next hbp) (fun hH => ?_)
  clear hK K
  clear hbp
  try simp only [Act.put, List.setIfInBounds_toArray, List.set_cons_zero, List.set_cons_succ]
  refine wpAnyH_take (i := 6) (oi := ⟨some 14, _, _, _, _, _⟩) (v := ?v6) rfl (by kernel_rfl) (by kernel_rfl) (by kernel_rfl) (fun _ _ _ h => h) (Or.inl ⟨rfl, ?c6⟩) hH ?r6
  case c6 => (intro w' _; go_simp; (try with_reducible rfl))
  try simp only [Act.put, List.setIfInBounds_toArray, List.set_cons_zero, List.set_cons_succ]
  refine wpAnyH_take (i := 7) (oi := ⟨some 21, _, _, _, _, _⟩) (v := ?v7) rfl (by kernel_rfl) (by kernel_rfl) (by kernel_rfl) (fun _ _ _ h => h) (Or.inl ⟨rfl, ?c7⟩) hH ?r7
  case c7 => (intro w' _; go_simp; (try with_reducible rfl))
  try simp only [Act.put, List.setIfInBounds_toArray, List.set_cons_zero, List.set_cons_succ]
  refine wpAnyH_take (i := 8) (oi := ⟨some 22, _, _, _, _, _⟩) (v := ?v8) rfl (by kernel_rfl) (by kernel_rfl) (by kernel_rfl) (fun _ _ _ h => h) (Or.inl ⟨rfl, ?c8⟩) hH ?r8
  case c8 => (intro w' _; go_simp; (try with_reducible rfl))
  try simp only [Act.put, List.setIfInBounds_toArray, List.set_cons_zero, List.set_cons_succ]
  refine wpAnyH_take (i := 9) (oi := ⟨some 9, _, _, _, _, _⟩) (v := ?v9) rfl (by kernel_rfl) (by kernel_rfl) (by kernel_rfl) (fun _ _ _ h => h) (Or.inl ⟨rfl, ?c9⟩) hH ?r9
  case c9 => (intro w' _; go_simp; (try with_reducible rfl))
  try simp only [Act.put, List.setIfInBounds_toArray, List.set_cons_zero, List.set_cons_succ]
  refine wpAnyH_take (i := 10) (oi := ⟨some 10, _, _, _, _, _⟩) (v := ?v10) rfl (by kernel_rfl) (by kernel_rfl) (by kernel_rfl) (fun _ _ _ h => h) (Or.inl ⟨rfl, ?c10⟩) hH ?r10
  case c10 => (intro w' _; go_simp; (try with_reducible rfl))
  try simp only [Act.put, List.setIfInBounds_toArray, List.set_cons_zero, List.set_cons_succ]
  refine wpAnyH_done (by kernel_rfl) ?_ _
  
  have HQ2 := Lib.hid hH
  obtain ⟨p0, p1, p2, p3, p4, p5, p6⟩ := Fs.pk_cells HQ2.out.pck
  clear hH
  go_wp2_with fail
  go_at_call 74
  refine (HOP.out _).mono ?_
  rintro e w2 ⟨rfl, hb⟩
  have HQ3 := Lib.hid (HQ2.out.next hb)
  clear hb p0 p1 p2 p3 p4 p5 p6
  go_wp2_with fail
  refine wp_region_held_drew (S := fun w' => OQ w O B M N T x li rl fs t k p w') (by kernel_rfl) (HQ3.out.drew) (fun hH => ?_)
  refine wpAnyH_take (i := 0) (oi := ⟨some 33, _, _, _, _, _⟩) (v := ?v101) rfl (by kernel_rfl) (by kernel_rfl) (by kernel_rfl) (fun _ _ _ h => h) (Or.inl ⟨rfl, ?c101⟩) hH ?r101
  case c101 => (intro w' _; go_simp; (try with_reducible rfl))
  try simp only [Act.put, List.setIfInBounds_toArray, List.set_cons_zero, List.set_cons_succ]
  refine wpAnyH_take (i := 1) (oi := ⟨some 34, _, _, _, _, _⟩) (v := ?v102) rfl (by kernel_rfl) (by kernel_rfl) (by kernel_rfl) (fun _ _ _ h => h) (Or.inl ⟨rfl, ?c102⟩) hH ?r102
  case c102 => (intro w' _; go_simp; (try with_reducible rfl))
  try simp only [Act.put, List.setIfInBounds_toArray, List.set_cons_zero, List.set_cons_succ]
  refine wpAnyH_take (i := 2) (oi := ⟨some 35, _, _, _, _, _⟩) (v := ?v103) rfl (by kernel_rfl) (by kernel_rfl) (by kernel_rfl) (fun _ _ _ h => h) (Or.inl ⟨rfl, ?c103⟩) hH ?r103
  case c103 => (intro w' _; go_simp; (try with_reducible rfl))
  try simp only [Act.put, List.setIfInBounds_toArray, List.set_cons_zero, List.set_cons_succ]
  refine wpAnyH_take (i := 3) (oi := ⟨some 36, _, _, _, _, _⟩) (v := ?v104) rfl (by kernel_rfl) (by kernel_rfl) (by kernel_rfl) (fun _ _ _ h => h) (Or.inl ⟨rfl, ?c104⟩) hH ?r104
  case c104 => (intro w' hS; have c17 := hS.raw.at_ 17 _ rfl; go_simp; (try with_reducible rfl))
  try simp only [Act.put, List.setIfInBounds_toArray, List.set_cons_zero, List.set_cons_succ]
  refine wpAnyH_take (i := 4) (oi := ⟨some 37, _, _, _, _, _⟩) (v := ?v105) rfl (by kernel_rfl) (by kernel_rfl) (by kernel_rfl) (fun _ _ _ h => h) (Or.inl ⟨rfl, ?c105⟩) hH ?r105
  case c105 => (intro w' _; go_simp; (try with_reducible rfl))
  try simp only [Act.put, List.setIfInBounds_toArray, List.set_cons_zero, List.set_cons_succ]
  refine wpAnyH_take (i := 5) (oi := ⟨some 38, _, _, _, _, _⟩) (v := ?v106) rfl (by kernel_rfl) (by kernel_rfl) (by kernel_rfl) (fun _ _ _ h => h) (Or.inl ⟨rfl, ?c106⟩) hH ?r106
  case c106 => (intro w' _; go_simp; (try with_reducible rfl))
  try simp only [Act.put, List.setIfInBounds_toArray, List.set_cons_zero, List.set_cons_succ]
  refine wpAnyH_take (i := 6) (oi := ⟨some 39, _, _, _, _, _⟩) (v := ?v107) rfl (by kernel_rfl) (by kernel_rfl) (by kernel_rfl) (fun _ _ _ h => h) (Or.inl ⟨rfl, ?c107⟩) hH ?r107
  case c107 => (intro w' _; go_simp; (try with_reducible rfl))
  try simp only [Act.put, List.setIfInBounds_toArray, List.set_cons_zero, List.set_cons_succ]
  refine wpAnyH_take (i := 7) (oi := ⟨some 40, _, _, _, _, _⟩) (v := ?v108) rfl (by kernel_rfl) (by kernel_rfl) (by kernel_rfl) (fun _ _ _ h => h) (Or.inl ⟨rfl, ?c108⟩) hH ?r108
  case c108 => (intro w' hS; have c0 := hS.raw.at_ 0 _ rfl; go_simp; (try with_reducible rfl))
  try simp only [Act.put, List.setIfInBounds_toArray, List.set_cons_zero, List.set_cons_succ]
  refine wpAnyH_ready (rs := [8]) (by kernel_rfl) (by simp) (AllReadyH.cons rfl (fun K hK => ?_) (AllReadyH.nil))
  go_simp
  go_at_call 75
  refine (HEN.out _ (HE.out.below hH.bel)).mono ?_
  rintro e w4 ⟨rfl, hbp⟩
  refine hK.out _ _ (hH.next hbp) (fun hH => ?_)
  clear hK K
  clear hbp
  try simp only [Act.put, List.setIfInBounds_toArray, List.set_cons_zero, List.set_cons_succ]
  refine wpAnyH_take (i := 9) (oi := ⟨some 32, _, _, _, _, _⟩) (v := ?v109) rfl (by kernel_rfl) (by kernel_rfl) (by kernel_rfl) (fun _ _ _ h => h) (Or.inl ⟨rfl, ?c109⟩) hH ?r109
  case c109 => (intro w' _; go_simp; (try with_reducible rfl))
  try simp only [Act.put, List.setIfInBounds_toArray, List.set_cons_zero, List.set_cons_succ]
  refine wpAnyH_take (i := 10) (oi := ⟨some 42, _, _, _, _, _⟩) (v := ?v110) rfl (by kernel_rfl) (by kernel_rfl) (by kernel_rfl) (fun _ _ _ h => h) (Or.inl ⟨rfl, ?c110⟩) hH ?r110
  case c110 => (intro w' _; go_simp; (try with_reducible rfl))
  try simp only [Act.put, List.setIfInBounds_toArray, List.set_cons_zero, List.set_cons_succ]
  refine wpAnyH_take (i := 11) (oi := ⟨some 43, _, _, _, _, _⟩) (v := ?v111) rfl (by kernel_rfl) (by kernel_rfl) (by kernel_rfl) (fun _ _ _ h => h) (Or.inl ⟨rfl, ?c111⟩) hH ?r111
  case c111 => (intro w' _; go_simp; (try with_reducible rfl))
  try simp only [Act.put, List.setIfInBounds_toArray, List.set_cons_zero, List.set_cons_succ]
  refine wpAnyH_take (i := 12) (oi := ⟨some 13, _, _, _, _, _⟩) (v := ?v112) rfl (by kernel_rfl) (by kernel_rfl) (by kernel_rfl) (fun _ _ _ h => h) (Or.inl ⟨rfl, ?c112⟩) hH ?r112
  case c112 => (intro w' _; go_simp; (try with_reducible rfl))
  try simp only [Act.put, List.setIfInBounds_toArray, List.set_cons_zero, List.set_cons_succ]
  refine wpAnyH_take (i := 13) (oi := ⟨some 12, _, _, _, _, _⟩) (v := ?v113) rfl (by kernel_rfl) (by kernel_rfl) (by kernel_rfl) (fun _ _ _ h => h) (Or.inl ⟨rfl, ?c113⟩) hH ?r113
  case c113 => (intro w' _; go_simp; (try with_reducible rfl))
  try simp only [Act.put, List.setIfInBounds_toArray, List.set_cons_zero, List.set_cons_succ]
  refine wpAnyH_done (by kernel_rfl) ?_ _
  
  clear HQ2 HQ3 HQ
  have HQ4 := Lib.hid hH
  have c17 := hH.raw.at_ 17 _ rfl
  have f17 := hH.raw.blk.frozen 17
  clear hH
  go_wp2_with fail
  have HR5 := Lib.hid (HQ4.out.raw.word x')
  have HK5 := Lib.hid (HQ4.out.key.other B 17 (fun e => by have := HL.out _ HOB.out; omega) (.int .u64 x'))
  have HO5 := Lib.hid ((Only.of_below HQ4.out.bel : Only O w w4).setCell (p := ⟨B, 17, none⟩) (.inl HOB.out) (.int .u64 x'))
  have HE5 := Lib.hid (HE.out.only HO5.out HFAR.out)
  obtain ⟨W5, hW5⟩ : ∃ v, v = w4.setCell ⟨B, 17, none⟩ (.int .u64 x') := ⟨_, rfl⟩
  simp only [← hW5] at *
  clear hW5 c17 f17
  refine wp_region_held_drew (S := fun w' => w'.cell? ⟨B, 19, none⟩ = some (.map (some M)) ∧ Blk w' w.heap.size (Ky.kyc k.a k.b k.p k.q k.r) 45) (by kernel_rfl) (⟨HR5.out.drew.at_ 19 _ rfl, HK5.out.drew⟩) (fun hH => ?_)
  refine wpAnyH_take (i := 0) (oi := ⟨some 50, _, _, _, _, _⟩) (v := ?v201) rfl (by kernel_rfl) (by kernel_rfl) (by kernel_rfl) (fun _ _ _ h => h) (Or.inl ⟨rfl, ?c201⟩) hH ?r201
  case c201 => (intro w' _; go_simp; (try with_reducible rfl))
  try simp only [Act.put, List.setIfInBounds_toArray, List.set_cons_zero, List.set_cons_succ]
  refine wpAnyH_take (i := 1) (oi := ⟨some 51, _, _, _, _, _⟩) (v := ?v202) rfl (by kernel_rfl) (by kernel_rfl) (by kernel_rfl) (fun _ _ _ h => h) (Or.inl ⟨rfl, ?c202⟩) hH ?r202
  case c202 => (intro w' _; go_simp; (try with_reducible rfl))
  try simp only [Act.put, List.setIfInBounds_toArray, List.set_cons_zero, List.set_cons_succ]
  refine wpAnyH_take (i := 2) (oi := ⟨some 52, _, _, _, _, _⟩) (v := ?v203) rfl (by kernel_rfl) (by kernel_rfl) (by kernel_rfl) (fun _ _ _ h => h) (Or.inl ⟨rfl, ?c203⟩) hH ?r203
  case c203 => (intro w' _; go_simp; (try with_reducible rfl))
  try simp only [Act.put, List.setIfInBounds_toArray, List.set_cons_zero, List.set_cons_succ]
  refine wpAnyH_take (i := 3) (oi := ⟨some 53, _, _, _, _, _⟩) (v := ?v204) rfl (by kernel_rfl) (by kernel_rfl) (by kernel_rfl) (fun _ _ _ h => h) (Or.inl ⟨rfl, ?c204⟩) hH ?r204
  case c204 => (intro w' hS; have c19 := hS.1; go_simp; (try with_reducible rfl))
  try simp only [Act.put, List.setIfInBounds_toArray, List.set_cons_zero, List.set_cons_succ]
  refine wpAnyH_take (i := 4) (oi := ⟨some 54, _, _, _, _, _⟩) (v := ?v205) rfl (by kernel_rfl) (by kernel_rfl) (by kernel_rfl) (fun _ _ _ h => h) (Or.inl ⟨rfl, ?c205⟩) hH ?r205
  case c205 => (intro w' hS; obtain ⟨x0, x1, x2, x3, x4⟩ := Ky.ky_cells hS.2; go_simp; (try with_reducible rfl))
  try simp only [Act.put, List.setIfInBounds_toArray, List.set_cons_zero, List.set_cons_succ]
  refine wpAnyH_take (i := 5) (oi := ⟨some 55, _, _, _, _, _⟩) (v := ?v206) rfl (by kernel_rfl) (by kernel_rfl) (by kernel_rfl) (fun _ _ _ h => h) (Or.inl ⟨rfl, ?c206⟩) hH ?r206
  case c206 => (intro w' _; go_simp; (try with_reducible rfl))
  try simp only [Act.put, List.setIfInBounds_toArray, List.set_cons_zero, List.set_cons_succ]
  refine wpAnyH_take (i := 6) (oi := ⟨some 56, _, _, _, _, _⟩) (v := ?v207) rfl (by kernel_rfl) (by kernel_rfl) (by kernel_rfl) (fun _ _ _ h => h) (Or.inl ⟨rfl, ?c207⟩) hH ?r207
  case c207 => (intro w' _; go_simp; (try with_reducible rfl))
  try simp only [Act.put, List.setIfInBounds_toArray, List.set_cons_zero, List.set_cons_succ]
  refine wpAnyH_take (i := 7) (oi := ⟨some 57, _, _, _, _, _⟩) (v := ?v208) rfl (by kernel_rfl) (by kernel_rfl) (by kernel_rfl) (fun _ _ _ h => h) (Or.inl ⟨rfl, ?c208⟩) hH ?r208
  case c208 => (intro w' _; go_simp; (try with_reducible rfl))
  try simp only [Act.put, List.setIfInBounds_toArray, List.set_cons_zero, List.set_cons_succ]
  refine wpAnyH_take (i := 10) (oi := ⟨some 60, _, _, _, _, _⟩) (v := ?v209) rfl (by kernel_rfl) (by kernel_rfl) (by kernel_rfl) (fun _ _ _ h => h) (Or.inl ⟨rfl, ?c209⟩) hH ?r209
  case c209 => (intro w' _; go_simp; (try with_reducible rfl))
  try simp only [Act.put, List.setIfInBounds_toArray, List.set_cons_zero, List.set_cons_succ]
  refine wpAnyH_ready (rs := [8]) (by kernel_rfl) (by simp) (AllReadyH.cons rfl (fun K hK => ?_) (AllReadyH.nil))
  have HR6 := Lib.hid HR5.out.drew
  have HE6 := Lib.hid (HE5.out.below (Below.refl _ W5).drew)
  go_simp
  go_at_call 71
  refine (HUN.out _ HR6.out HE6.out).mono ?_
  rintro e w6 ⟨rfl, hb⟩
  have HR7 := Lib.hid (HR6.out.next hb)
  have HK7 := Lib.hid (HK5.out.drew.next hb)
  have HE7 := Lib.hid (HE6.out.below hb)
  have HO7 := Lib.hid ((HO5.out.next (Below.refl _ W5).drew).next hb)
  clear hb
  refine hK.out _ _ (⟨HR7.out.at_ 19 _ rfl, HK7.out⟩) (fun hH => ?_)
  clear hK K
  try simp only [Act.put, List.setIfInBounds_toArray, List.set_cons_zero, List.set_cons_succ]
  refine wpAnyH_ready (rs := [9]) (by kernel_rfl) (by simp) (AllReadyH.cons rfl (fun K hK => ?_) (AllReadyH.nil))
  go_simp
  go_at_call 72
  refine (HNE.out _ HE7.out).mono ?_
  rintro e w7 ⟨rfl, hb⟩
  have HR8 := Lib.hid (HR7.out.next hb)
  have HK8 := Lib.hid (HK7.out.next hb)
  have HO8 := Lib.hid (HO7.out.next hb)
  clear hb
  refine hK.out _ _ (⟨HR8.out.at_ 19 _ rfl, HK8.out⟩) (fun hH => ?_)
  clear hK K
  try simp only [Act.put, List.setIfInBounds_toArray, List.set_cons_zero, List.set_cons_succ]
  refine wpAnyH_take (i := 11) (oi := ⟨some 61, _, _, _, _, _⟩) (v := ?v210) rfl (by kernel_rfl) (by kernel_rfl) (by kernel_rfl) (fun _ _ _ h => h) (Or.inl ⟨rfl, ?c210⟩) hH ?r210
  case c210 => (intro w' _; go_simp; (try with_reducible rfl))
  try simp only [Act.put, List.setIfInBounds_toArray, List.set_cons_zero, List.set_cons_succ]
  refine wpAnyH_ready (rs := [12]) (by kernel_rfl) (by simp) (AllReadyH.cons rfl (fun K hK => ?_) (AllReadyH.nil))
  obtain ⟨WD, hD, HM, ho⟩ := HPU.out w7 HR8.out.map
  have HO := Lib.hid ho
  go_simp
  have HR9 := Lib.hid (HR8.out.turn HO.out HM)
  have HO9 := Lib.hid (HO8.out.trans HO.out (fun j e => .inl (e ▸ HOM.out)))
  have hne : w.heap.size ≠ M := fun e => by have := HL.out _ HOM.out; omega
  clear HM ho hD
  refine hK.out _ _ (⟨HR9.out.at_ 19 _ rfl, Blk.only HK8.out HO.out hne⟩) (fun hH => ?_)
  clear hK K
  clear hne
  try simp only [Act.put, List.setIfInBounds_toArray, List.set_cons_zero, List.set_cons_succ]
  refine wpAnyH_done (by kernel_rfl) ?_ _
  
  clear hH
  go_wp2_with fail
  go_ret
  exact ⟨rfl, HR9.out, HO9.out⟩
end Au
end Go.Proofs.YtgcnhbjoalemlaaGreatDoor
/- Layer 18: the firewall as a plain machine: what each of its acts makes of its state, and what always holds of it. -/
set_option linter.unusedVariables false
set_option linter.unusedSimpArgs false
set_option maxRecDepth 100000
namespace Go.Proofs.YtgcnhbjoalemlaaGreatDoor
open Go.ChangeShapes Go.WideShapes Go.ChangeAt Go.RowKit Go.Mtl Go.Lib
namespace Au
open AutM
open RulM (R)
open MatM (K fst accB idxI)
open KeyM (lowB)

/-- A packet's key, and whether it comes from the higher endpoint. -/
def dnP (p : K) : Bool := lowB p.ds p.dp p.sr p.sp
def keyP (p : K) : Ke := if dnP p then ⟨p.ds, p.sr, p.dp, p.sp, p.pr⟩ else ⟨p.sr, p.ds, p.sp, p.dp, p.pr⟩
theorem keyP_ok {p : K} (h : p.Ok) : (keyP p).Ok := by
  have := h.pr; have := h.sr; have := h.ds; have := h.sp; have := h.dp
  unfold keyP; split <;> exact ⟨by assumption, by assumption, by assumption, by assumption, by assumption⟩

def dropS (s : St) (k : Ke) : St := match find k s.fs with
  | some _ => { s with g := s.g - 1, fs := drop k s.fs }
  | none => s
def delB (s : St) (k : Ke) : Bool := match find k s.fs with
  | some f => Fl.overB f.c f.n f.s s.c
  | none => false
def delS (s : St) (k : Ke) : St := if delB s k then dropS s k else s
def tickS (s : St) (n : Int) : St := { s with c := Ga.later s.c n }
/-- A packet of a flow that is there. -/
def folB (f : Fl) (p : K) : Bool := Fs.neB f.s (dnP p != f.dn) (p.pr : Int) (p.fl : Int) (p.kd : Int)
def folN (f : Fl) (p : K) : Int := Fs.neN f.s (dnP p != f.dn) (p.pr : Int) (p.fl : Int) (p.kd : Int)
def folF (T : Nat → Int) (c : Int) (f : Fl) (p : K) : Fl :=
  if folB f p then { f with c := Fl.clip (Fs.untN T (folN f p) c), n := Fl.up f.n, s := folN f p % 16 } else { f with c := Fl.clip f.c, n := Fl.up f.n, s := f.s % 16 }
def folS (T : Nat → Int) (s : St) (f : Fl) (p : K) : St := { s with fs := put (folF T s.c f p) s.fs }
def folV (f : Fl) (p : K) : Int := if folB f p then 1 else 4
/-- A packet of no flow. -/
def opeB (p : K) : Bool := Fs.opB (p.pr : Int) (p.fl : Int) (p.kd : Int)
def opeN (p : K) : Int := Fs.opN (p.pr : Int) (p.fl : Int) (p.kd : Int)
def opeV (N : Int) (s : St) (p : K) : Int := if accB s.rl (fst p s.rl) = false then 3 else if opeB p = false then 4 else if N ≤ s.g then 5 else 1
def opeF (T : Nat → Int) (c : Int) (p : K) : Fl := { k := keyP p, c := Fl.clip (Fs.untN T (opeN p) c), n := Fl.up 0, s := opeN p % 16, dn := dnP p }
def opeS (N : Int) (T : Nat → Int) (s : St) (p : K) : St := if opeV N s p = 1 then { s with g := s.g + 1, fs := ins (opeF T s.c p) s.fs } else s
def actS (N : Int) (T : Nat → Int) (s : St) (p : K) : St := match find (keyP p) (delS s (keyP p)).fs with
  | some f => folS T (delS s (keyP p)) f p
  | none => opeS N T (delS s (keyP p)) p
def actV (N : Int) (s : St) (p : K) : Int := match find (keyP p) (delS s (keyP p)).fs with
  | some f => folV f p
  | none => opeV N (delS s (keyP p)) p
def swapV (s : St) (rl : List R) : Int × Int := if fitE rl ≠ 0 then (0, fitE rl) else if s.v = 4095 then (0, 2) else (s.v + 1, 0)
def swapS (s : St) (rl : List R) : St := if (swapV s rl).2 = 0 then { s with v := s.v + 1, rl := rl } else s

theorem next_fin : ∀ (s : Fin 16) (r : Bool) (f : Fin 256), TraM.nextB (s.val : Int) r f.val = true → 1 ≤ TraM.nextN (s.val : Int) r f.val ∧ TraM.nextN (s.val : Int) r f.val ≤ 9 := by decide +kernel
theorem open_fin : ∀ (f : Fin 256), TraM.openB f.val = true → 1 ≤ TraM.openN f.val ∧ TraM.openN f.val ≤ 9 := by decide +kernel
theorem folN_in {f : Fl} {p : K} (hf : f.Ok) (hp : p.Ok) (h : folB f p = true) : 1 ≤ folN f p ∧ folN f p ≤ 9 := by
  unfold folB Fs.neB at h
  unfold folN Fs.neN
  have h0 := hf.fit.v0
  have h1 := hf.fit.v1
  have h2 := hp.fl
  split
  · rename_i h6
    rw [if_pos h6] at h
    have e : f.s = ((⟨f.s.toNat, by omega⟩ : Fin 16).val : Int) := by simp; omega
    have h3 := next_fin ⟨f.s.toNat, by omega⟩ (dnP p != f.dn) ⟨p.fl, by omega⟩
    rw [← e] at h3
    exact h3 (by simpa using h)
  · rename_i h6
    rw [if_neg h6] at h
    split
    · rename_i h7
      rw [if_pos h7] at h
      unfold Fs.talkB at h
      have h8 : f.s = 8 ∨ f.s = 9 := by simpa using h
      unfold Fs.talkN
      rw [if_pos h8]
      split <;> omega
    · rename_i h7
      rw [if_neg h7] at h; cases h
theorem opeN_in {p : K} (hp : p.Ok) (h : opeB p = true) : 1 ≤ opeN p ∧ opeN p ≤ 9 := by
  unfold opeB Fs.opB at h
  unfold opeN Fs.opN
  have h2 := hp.fl
  split
  · rename_i h6
    rw [if_pos h6] at h
    have h3 := open_fin ⟨p.fl, by omega⟩
    simp only [Int.toNat_natCast] at h ⊢
    exact h3 h
  · rename_i h6
    rw [if_neg h6] at h
    have h7 : ((p.pr : Int) = 17 ∨ (p.pr : Int) = 1 ∧ (p.kd : Int) = 8) := by simpa using h
    rw [if_pos h7]; omega
end Au
end Go.Proofs.YtgcnhbjoalemlaaGreatDoor
/- Layer 18: what always holds of a firewall is kept by its acts; the contracts of Drop, Delete, Look, follow, open in the plain machine's words. -/
set_option linter.unusedVariables false
set_option linter.unusedSimpArgs false
set_option maxRecDepth 100000
namespace Go.Proofs.YtgcnhbjoalemlaaGreatDoor
open Go.ChangeShapes Go.WideShapes Go.ChangeAt Go.RowKit Go.Mtl Go.Lib
namespace Au
open AutM
open RulM (R)
open MatM (K fst accB idxI)

theorem Inv.at_least {N : Int} {s : St} (H : Inv N s) {k : Ke} {f : Fl} (h : find k s.fs = some f) : s.g ≠ 0 := by
  have h1 := (find_some h).1
  have h2 := H.cnt
  intro e
  rw [e] at h2
  have : s.fs = [] := List.eq_nil_of_length_eq_zero (by omega)
  rw [this] at h1; cases h1
theorem Inv.drop {N : Int} {s : St} (H : Inv N s) (k : Ke) : Inv N (dropS s k) := by
  unfold dropS
  cases h : find k s.fs with
  | none => exact H
  | some f =>
    have h0 := H.at_least h
    have h1 := H.fit
    have h2 := H.oks.len_drop h
    have h3 := H.cnt
    have h4 := H.cap
    refine ⟨⟨h1.c0, h1.c1, ?_, ?_, h1.v0, h1.v1⟩, ?_, ?_, H.cap1, H.oks.drop k, H.rls, H.few, H.tl⟩
    · show 0 ≤ s.g - 1; omega
    · show s.g - 1 < 4096; have := h1.k1; omega
    · show s.g - 1 = ((AutM.drop k s.fs).length : Int); omega
    · show s.g - 1 ≤ N; omega
theorem Inv.del {N : Int} {s : St} (H : Inv N s) (k : Ke) : Inv N (delS s k) := by
  unfold delS
  split
  · exact H.drop k
  · exact H
theorem Inv.tick {N : Int} {s : St} (H : Inv N s) (n : Int) : Inv N (tickS s n) := by
  have HL := Ga.later_fit (n := n) H.fit
  exact ⟨⟨HL.1, HL.2.1, H.fit.k0, H.fit.k1, H.fit.v0, H.fit.v1⟩, H.cnt, H.cap, H.cap1, H.oks, H.rls, H.few, H.tl⟩
theorem folF_ok {T : Nat → Int} {c : Int} {f : Fl} {p : K} (hf : f.Ok) (hp : p.Ok) : (folF T c f p).Ok ∧ (folF T c f p).k = f.k := by
  unfold folF
  have h1 := Fl.clip_fit f.c
  have h2 := Fl.up_fit hf.fit.k0 hf.fit.k1
  have h3 := Fl.clip_fit (Fs.untN T (folN f p) c)
  have h5 := hf.lo; have h6 := hf.hi
  split
  · rename_i hb
    have h4 := folN_in hf hp hb
    exact ⟨⟨hf.k, ⟨h3.1, h3.2, h2.1, h2.2, by show 0 ≤ folN f p % 16; omega, by show folN f p % 16 < 16; omega⟩, by show 1 ≤ folN f p % 16; omega, by show folN f p % 16 ≤ 9; omega⟩, rfl⟩
  · exact ⟨⟨hf.k, ⟨h1.1, h1.2, h2.1, h2.2, by show 0 ≤ f.s % 16; omega, by show f.s % 16 < 16; omega⟩, by show 1 ≤ f.s % 16; omega, by show f.s % 16 ≤ 9; omega⟩, rfl⟩
theorem opeF_ok {T : Nat → Int} {c : Int} {p : K} (hp : p.Ok) (hb : opeB p = true) : (opeF T c p).Ok := by
  unfold opeF
  have h3 := Fl.clip_fit (Fs.untN T (opeN p) c)
  have h2 := Fl.up_fit (k := 0) (by omega) (by omega)
  have h4 := opeN_in hp hb
  exact ⟨keyP_ok hp, ⟨h3.1, h3.2, h2.1, h2.2, by show 0 ≤ opeN p % 16; omega, by show opeN p % 16 < 16; omega⟩, by show 1 ≤ opeN p % 16; omega, by show opeN p % 16 ≤ 9; omega⟩
theorem Inv.fol {N : Int} {T : Nat → Int} {s : St} (H : Inv N s) {f : Fl} {p : K} (hf : f ∈ s.fs) (hp : p.Ok) : Inv N (folS T s f p) :=
  ⟨H.fit, by show s.g = ((put (folF T s.c f p) s.fs).length : Int); rw [len_put]; exact H.cnt, H.cap, H.cap1, H.oks.put (folF_ok (H.oks.ok f hf) hp).1, H.rls, H.few, H.tl⟩
theorem opeV_yes {N : Int} {s : St} {p : K} (h : opeV N s p = 1) : accB s.rl (fst p s.rl) = true ∧ opeB p = true ∧ ¬ N ≤ s.g := by
  unfold opeV at h
  split at h
  · omega
  · rename_i h1
    split at h
    · omega
    · rename_i h2
      split at h
      · omega
      · rename_i h3
        exact ⟨by simpa using h1, by simpa using h2, h3⟩
theorem Inv.ope {N : Int} {T : Nat → Int} {s : St} (H : Inv N s) {p : K} (hp : p.Ok) (hk : find (keyP p) s.fs = none) : Inv N (opeS N T s p) := by
  unfold opeS
  split
  · rename_i h
    obtain ⟨_, h2, h3⟩ := opeV_yes h
    have h1 := H.fit
    have h4 := H.cnt
    have h5 := H.cap1
    refine ⟨⟨h1.c0, h1.c1, ?_, ?_, h1.v0, h1.v1⟩, ?_, ?_, H.cap1, H.oks.ins (opeF_ok hp h2) hk, H.rls, H.few, H.tl⟩
    · show 0 ≤ s.g + 1; have := h1.k0; omega
    · show s.g + 1 < 4096; omega
    · show s.g + 1 = ((ins (opeF T s.c p) s.fs).length : Int); rw [len_ins]; omega
    · show s.g + 1 ≤ N; omega
  · exact H
theorem Inv.act {N : Int} {T : Nat → Int} {s : St} (H : Inv N s) {p : K} (hp : p.Ok) : Inv N (actS N T s p) := by
  have h1 := H.del (keyP p)
  unfold actS
  cases h : find (keyP p) (delS s (keyP p)).fs with
  | none => exact h1.ope hp h
  | some f => exact h1.fol (find_some h).1 hp
theorem Inv.swap {N : Int} {s : St} (H : Inv N s) {rl : List R} (ho : ∀ r ∈ rl, r.Ok) : Inv N (swapS s rl) := by
  unfold swapS
  split
  · rename_i h
    have hw : ¬ fitE rl ≠ 0 ∧ ¬ s.v = 4095 := by
      unfold swapV at h
      split at h
      · rename_i h2; exact absurd h h2
      · rename_i h2
        split at h
        · cases h
        · rename_i h3; exact ⟨h2, h3⟩
    have h1 := H.fit
    exact ⟨⟨h1.c0, h1.c1, h1.k0, h1.k1, by show 0 ≤ s.v + 1; have := h1.v0; omega, by show s.v + 1 < 4096; have := h1.v1; have := hw.2; omega⟩, H.cnt, H.cap, H.cap1, H.oks, ho, fit_len (Decidable.not_not.1 hw.1), H.tl⟩
  · exact H

section
variable {w : World} {O : Nat → Prop} {B M : Nat} {N : Int} {T : Nat → Int} {s : St}
theorem drop_p (H : PAt w O B M N T s) (he : Env w) (k : Ke) :
    Calls Tryz.prog 28 #[ptr B, kyV k] w fun e w' => e = .returned (.bool (find k s.fs).isSome) ∧ PAt w' O B M N T (dropS s k) ∧ Only O w w' := by
  have hd := H.2.1.drop k
  obtain ⟨⟨li, H⟩, hi, htm, hN⟩ := H
  unfold dropS at hd ⊢
  cases h : find k s.fs with
  | none =>
    refine (drop_no H k 0 false fun w' hm => look_none hm hi.oks h).mono ?_
    rintro e w' ⟨rfl, hb⟩
    exact ⟨rfl, ⟨⟨li, H.next hb⟩, hi, htm, hN⟩, Only.of_below hb⟩
  | some f =>
    rw [h] at hd
    refine (drop_yes H he hi.fit (hi.at_least h) hi.oks k f h).mono ?_
    rintro e w' ⟨rfl, hr, ho⟩
    exact ⟨rfl, ⟨⟨li, hr⟩, hd, htm, hN⟩, ho⟩
theorem delete_p (H : PAt w O B M N T s) (he : Env w) (k : Ke) :
    Calls Tryz.prog 26 #[ptr B, kyV k] w fun e w' => e = .returned (.bool (delB s k)) ∧ PAt w' O B M N T (delS s k) ∧ Only O w w' := by
  have hd := H.2.1.del k
  obtain ⟨⟨li, H⟩, hi, htm, hN⟩ := H
  unfold delS delB dropS at hd ⊢
  cases h : find k s.fs with
  | none =>
    refine (delete_none H k 0 false fun w' hm => look_none hm hi.oks h).mono ?_
    rintro e w' ⟨rfl, hb⟩
    exact ⟨rfl, ⟨⟨li, H.next hb⟩, hi, htm, hN⟩, Only.of_below hb⟩
  | some f =>
    simp only [h] at hd
    simp only
    cases ho : Fl.overB f.c f.n f.s s.c with
    | false =>
      refine (delete_live H he hi.fit (hi.at_least h) hi.oks k f h ho).mono ?_
      rintro e w' ⟨rfl, hb⟩
      exact ⟨rfl, ⟨⟨li, H.next hb⟩, hi, htm, hN⟩, Only.of_below hb⟩
    | true =>
      rw [ho] at hd
      refine (delete_over H he hi.fit (hi.at_least h) hi.oks k f h ho).mono ?_
      rintro e w' ⟨rfl, hr, ho⟩
      exact ⟨rfl, ⟨⟨li, hr⟩, hd, htm, hN⟩, ho⟩
/-- What Look answers. -/
def lookV (s : St) (k : Ke) : Value := match find k s.fs with
  | some f => .tuple #[.agg (Fl.gtc f.s f.n f.c), .bool true]
  | none => .tuple #[.agg (Fl.gtc 0 0 0), .bool false]
theorem look_p (H : PAt w O B M N T s) (he : Env w) (k : Ke) :
    Calls Tryz.prog 11 #[ptr B, kyV k] w fun e w' => e = .returned (lookV s k) ∧ Below w.heap.size w w' := by
  obtain ⟨⟨li, H⟩, hi, htm, hN⟩ := H
  unfold lookV
  cases h : find k s.fs with
  | none => exact look_any H he k 0 0 0 ⟨by omega, by omega, by omega, by omega, by omega, by omega⟩ 0 rfl false false fun w' hm => look_none hm hi.oks h
  | some f => exact look_any H he k f.c f.n f.s (hi.oks.ok f (find_some h).1).fit _ rfl f.dn true fun w' hm => look_some hm hi.oks h
theorem gate_p (H : PAt w O B M N T s) (he : Env w) :
    Calls Tryz.prog 20 #[ptr B] w fun e w' => e = .returned (.agg (Ga.gtc s.v s.g s.c)) ∧ Below w.heap.size w w' := by
  obtain ⟨⟨li, H⟩, hi, _⟩ := H
  exact gate_any H hi.fit he
theorem follow_p (H : PAt w O B M N T s) (he : Env w) (f : Fl) (p : K) (hp : p.Ok) (hk : find f.k s.fs = some f) :
    Calls Tryz.prog 39 #[ptr B, kyV f.k, enV f, .bool (dnP p), .agg (Ma.pK p)] w fun e w' => e = .returned (.int .i64 (folV f p)) ∧ PAt w' O B M N T (folS T s f p) ∧ Only O w w' := by
  have hd := H.2.1.fol (T := T) (find_some hk).1 hp
  obtain ⟨⟨li, H⟩, hi, htm, hN⟩ := H
  unfold folV
  cases hb : folB f p with
  | false =>
    refine (follow_no H he hi.fit htm hi.oks f hk (dnP p) p hp _ 0 rfl hb (folF T s.c f p) (by unfold folF; rw [hb]; rfl)).mono ?_
    rintro e w' ⟨rfl, hr, ho⟩
    exact ⟨rfl, ⟨⟨li, hr⟩, hd, htm, hN⟩, ho⟩
  | true =>
    refine (follow_yes H he hi.fit htm hi.oks f hk (dnP p) p hp _ _ rfl hb rfl (folF T s.c f p) (by unfold folF; rw [hb]; rfl)).mono ?_
    rintro e w' ⟨rfl, hr, ho⟩
    exact ⟨rfl, ⟨⟨li, hr⟩, hd, htm, hN⟩, ho⟩
theorem open_p (H : PAt w O B M N T s) (he : Env w) (p : K) (hp : p.Ok) (hk : find (keyP p) s.fs = none) :
    Calls Tryz.prog 40 #[ptr B, kyV (keyP p), .bool (dnP p), .agg (Ma.pK p)] w fun e w' => e = .returned (.int .i64 (opeV N s p)) ∧ PAt w' O B M N T (opeS N T s p) ∧ Only O w w' := by
  have hd := H.2.1.ope (T := T) hp hk
  obtain ⟨⟨li, H⟩, hi, htm, hN⟩ := H
  have stay : ∀ n : Int, n ≠ 1 → opeV N s p = n → Calls Tryz.prog 40 #[ptr B, kyV (keyP p), .bool (dnP p), .agg (Ma.pK p)] w (fun e w' => e = .returned (.int .i64 n) ∧ Below w.heap.size w w') →
      Calls Tryz.prog 40 #[ptr B, kyV (keyP p), .bool (dnP p), .agg (Ma.pK p)] w fun e w' => e = .returned (.int .i64 (opeV N s p)) ∧ PAt w' O B M N T (opeS N T s p) ∧ Only O w w' := by
    intro n hn he h
    refine h.mono ?_
    rintro e w' ⟨rfl, hb⟩
    have : opeS N T s p = s := by unfold opeS; rw [he, if_neg hn]
    rw [he, this]
    exact ⟨rfl, ⟨⟨li, H.next hb⟩, hi, htm, hN⟩, Only.of_below hb⟩
  cases ha : accB s.rl (fst p s.rl) with
  | false => exact stay 3 (by omega) (by unfold opeV; rw [if_pos ha]) (open_denied H he hi.fit hi.rls (keyP p) (dnP p) p hp ha)
  | true =>
    have na : ¬ accB s.rl (fst p s.rl) = false := by rw [ha]; simp
    cases ho : opeB p with
    | false => exact stay 4 (by omega) (by unfold opeV; rw [if_neg na, if_pos ho]) (open_invalid H he hi.fit hi.rls (keyP p) (dnP p) p hp ha ho)
    | true =>
      have no : ¬ opeB p = false := by rw [ho]; simp
      by_cases hg : N ≤ s.g
      · exact stay 5 (by omega) (by unfold opeV; rw [if_neg na, if_neg no, if_pos hg]) (open_full H he hi.fit hi.rls (keyP p) (dnP p) p hp ha ho hg)
      · have hv : opeV N s p = 1 := by unfold opeV; rw [if_neg na, if_neg no, if_neg hg]
        unfold opeS at hd ⊢
        rw [hv] at hd ⊢
        rw [if_pos rfl] at hd ⊢
        refine (open_yes H he hi.fit htm hi.oks hi.rls (keyP p) (dnP p) p hp ha ho hg hi.cap1 hk _ _ rfl rfl (opeF T s.c p) rfl).mono ?_
        rintro e w' ⟨rfl, hr, ho⟩
        exact ⟨rfl, ⟨⟨li, hr⟩, hd, htm, hN⟩, ho⟩
end
end Au
end Go.Proofs.YtgcnhbjoalemlaaGreatDoor
/- Layer 18: the contract of Act. (Written by wip/tools/mkAutP.py.) -/
set_option linter.unusedVariables false
set_option linter.unusedSimpArgs false
set_option maxRecDepth 100000
namespace Go.Proofs.YtgcnhbjoalemlaaGreatDoor
open Go.ChangeShapes Go.WideShapes Go.ChangeAt Go.RowKit Go.Mtl Go.Lib
namespace Au
open AutM
open RulM (R)
open MatM (K fst accB idxI)

theorem of_key (p : K) (hp : p.Ok) (W : World) : Calls Tryz.prog 38 #[.agg (Ma.pK p)] W fun e w' => e = .returned (.tuple #[kyV (keyP p), .bool (dnP p)]) ∧ Below W.heap.size W w' := by
  have hr : keyP p = if dnP p then ⟨p.ds, p.sr, p.dp, p.sp, p.pr⟩ else ⟨p.sr, p.ds, p.sp, p.dp, p.pr⟩ := rfl
  cases hd : dnP p with
  | true =>
    rw [hd, if_pos rfl] at hr
    rw [hr]
    exact Ky.of_any p.pr p.sr p.ds p.sp p.dp p.fl p.kd hp.sp hp.dp p.ds p.sr p.dp p.sp true hd (.inl ⟨rfl, rfl, rfl, rfl, rfl⟩) W
  | false =>
    rw [hd, if_neg (by simp)] at hr
    rw [hr]
    exact Ky.of_any p.pr p.sr p.ds p.sp p.dp p.fl p.kd hp.sp hp.dp p.sr p.ds p.sp p.dp false hd (.inr ⟨rfl, rfl, rfl, rfl, rfl⟩) W

set_option maxHeartbeats 2000000 in
theorem act_p {w : World} {O : Nat → Prop} {B M : Nat} {N : Int} {T : Nat → Int} {s : St} (H : PAt w O B M N T s) (he : Env w) (p : K) (hp : p.Ok) :
    Calls Tryz.prog 16 #[ptr B, .agg (Ma.pK p)] w fun e w' => e = .returned (.int .i64 (actV N s p)) ∧ PAt w' O B M N T (actS N T s p) ∧ Only O w w' := by
  have HOF := Lib.hid (of_key p hp)
  have HP := Lib.hid hp
  have HENV := Lib.hid he
  have HFAR : Hid (∀ j, O j → Far j) := H.1.elim fun _ h => h.hi
  have HLT : Hid (∀ j, O j → j < w.heap.size) := H.1.elim fun _ h => h.lt
  have HH := Lib.hid H
  have HOPN : Hid (∀ W, PAt W O B M N T (delS s (keyP p)) → Env W → find (keyP p) (delS s (keyP p)).fs = none → Calls Tryz.prog 40 #[ptr B, kyV (keyP p), .bool (dnP p), .agg (Ma.pK p)] W fun e w' => e = .returned (.int .i64 (opeV N (delS s (keyP p)) p)) ∧ PAt w' O B M N T (opeS N T (delS s (keyP p)) p) ∧ Only O W w') := fun W h e hk => open_p h e p hp hk
  have HFOL : Hid (∀ W f, PAt W O B M N T (delS s (keyP p)) → Env W → find (keyP p) (delS s (keyP p)).fs = some f → Calls Tryz.prog 39 #[ptr B, kyV (keyP p), enV f, .bool (dnP p), .agg (Ma.pK p)] W fun e w' => e = .returned (.int .i64 (folV f p)) ∧ PAt w' O B M N T (folS T (delS s (keyP p)) f p) ∧ Only O W w') := fun W f h e hk => by
    have hk2 := (find_some hk).2
    have h3 := follow_p h e f p hp (by rw [hk2]; exact hk)
    rw [hk2] at h3
    exact h3
  have HDEL : Hid (∀ W, PAt W O B M N T s → Env W → Calls Tryz.prog 26 #[ptr B, kyV (keyP p)] W fun e w' => e = .returned (.bool (delB s (keyP p))) ∧ PAt w' O B M N T (delS s (keyP p)) ∧ Only O W w') := fun W h e => delete_p h e (keyP p)
  obtain ⟨V, hV⟩ : ∃ V, V = actV N s p := ⟨_, rfl⟩
  obtain ⟨Z, hZ⟩ : ∃ Z, Z = actS N T s p := ⟨_, rfl⟩
  rw [← hV, ← hZ]
  unfold actV at hV
  unfold actS at hZ
  have HV := Lib.hid hV
  have HZ := Lib.hid hZ
  clear hV hZ
  generalize keyP p = k at *
  generalize delS s k = s1 at *
  generalize dnP p = dn at *
  generalize delB s k = db at *
  have HB := Lib.hid (below_box w (.cells (Ma.pK p) 41))
  have HX := Lib.hid (Blk.box w (Ma.pK p) 41)
  obtain ⟨p0, p1, p2, p3, p4, p5, p6⟩ := Fs.pk_cells HX.out
  clear H he hp
  go_enter Tryz.func16, Tryz.ntmps16
  go_wp2_with fail
  go_at_call 38
  refine (HOF.out _).mono ?_
  rintro e w1 ⟨rfl, hb⟩
  have HB1 := Lib.hid ((HB.out.trans (hb.mono HB.out.size)).trans ((below_box w1 (.cells (Ky.kyc k.a k.b k.p k.q k.r) 45)).mono (HB.out.trans (hb.mono HB.out.size)).size))
  have HX1 := Lib.hid ((HX.out.next hb).alloc (.cells (Ky.kyc k.a k.b k.p k.q k.r) 45))
  have HK1 := Lib.hid (Blk.box w1 (Ky.kyc k.a k.b k.p k.q k.r) 45)
  have HSZ := Lib.hid (HB.out.trans (hb.mono HB.out.size)).size
  clear hb p0 p1 p2 p3 p4 p5 p6 HB HX
  go_wp2_with fail
  go_at_call 26
  refine (HDEL.out _ (HH.out.next HB1.out) (HENV.out.below HB1.out)).mono ?_
  rintro e W2 ⟨rfl, hp2, ho2⟩
  have hnk : ¬ O w1.heap.size := fun e => by have := HLT.out _ e; have := HSZ.out; omega
  have hnx : ¬ O w.heap.size := fun e => by have := HLT.out _ e; omega
  obtain ⟨⟨li, hr2⟩, hi2, htm2, hN2⟩ := hp2
  have HI2 := Lib.hid hi2
  obtain ⟨x, hx⟩ : ∃ x, x = GatM.gI s1.c s1.g s1.v := ⟨_, rfl⟩
  have HMK : Hid (∀ W, Raw W O B M N T x li s1.rl s1.fs s1.tl → PAt W O B M N T s1) := fun W h => ⟨⟨li, hx ▸ h⟩, hi2, htm2, hN2⟩
  rw [← hx] at hr2
  have HQ0 := Lib.hid (And.intro hr2 (And.intro (Blk.only HK1.out ho2 hnk) (And.intro (Blk.only HX1.out ho2 hnx) (And.intro ((Only.of_below HB1.out : Only O w _).trans ho2 (fun j e => .inl e)) HSZ.out))))
  clear hr2 hi2 ho2 hnk hnx hx htm2 hN2
  obtain ⟨g5, hg5⟩ : ∃ g, g = w1.heap.size := ⟨_, rfl⟩
  have HQ : Hid (Raw W2 O B M N T x li s1.rl s1.fs s1.tl ∧ Blk W2 g5 (Ky.kyc k.a k.b k.p k.q k.r) 45 ∧ Blk W2 w.heap.size (Ma.pK p) 41 ∧ Only O w W2 ∧ w.heap.size ≤ g5) := by rw [hg5]; exact HQ0.out
  clear HQ0 HB1 HX1 HK1 HSZ
  simp only [← hg5]
  clear hg5
  go_wp2_with fail
  cases hk : find k s1.fs with
  | none =>
    obtain ⟨y, hy⟩ : ∃ y : Int, y = 0 := ⟨_, rfl⟩
    obtain ⟨d, hd⟩ : ∃ d, d = false := ⟨_, rfl⟩
    have HL : Hid (∀ w', MapAt w' M s1.fs → (Instr.lookup 56 (.map (some M)) (kyV k) true).run Tryz.prog w' = .ok (.tuple #[enW y d, .bool false]) w') := fun w' hm => by rw [hy, hd]; exact look_none hm HI2.out.oks hk
    clear hy hd
    refine wp_region_held_drew (S := fun w' => Raw w' O B M N T x li s1.rl s1.fs s1.tl ∧ Blk w' g5 (Ky.kyc k.a k.b k.p k.q k.r) 45 ∧ Blk w' w.heap.size (Ma.pK p) 41 ∧ Only O w w' ∧ w.heap.size ≤ g5) (by kernel_rfl) (⟨HQ.out.1.drew, HQ.out.2.1.drew, HQ.out.2.2.1.drew, HQ.out.2.2.2.1.next (Below.refl _ W2).drew, HQ.out.2.2.2.2⟩) (fun hH => ?_)
    refine wpAnyH_take (i := 0) (oi := ⟨some 20, _, _, _, _, _⟩) (v := ?v1) rfl (by kernel_rfl) (by kernel_rfl) (by kernel_rfl) (fun _ _ _ h => h) (Or.inl ⟨rfl, ?c1⟩) hH ?r1
    case c1 => (intro w' _; go_simp; (try with_reducible rfl))
    try simp only [Act.put, List.setIfInBounds_toArray, List.set_cons_zero, List.set_cons_succ]
    refine wpAnyH_take (i := 1) (oi := ⟨some 21, _, _, _, _, _⟩) (v := ?v2) rfl (by kernel_rfl) (by kernel_rfl) (by kernel_rfl) (fun _ _ _ h => h) (Or.inl ⟨rfl, ?c2⟩) hH ?r2
    case c2 => (intro w' _; go_simp; (try with_reducible rfl))
    try simp only [Act.put, List.setIfInBounds_toArray, List.set_cons_zero, List.set_cons_succ]
    refine wpAnyH_take (i := 2) (oi := ⟨some 22, _, _, _, _, _⟩) (v := ?v3) rfl (by kernel_rfl) (by kernel_rfl) (by kernel_rfl) (fun _ _ _ h => h) (Or.inl ⟨rfl, ?c3⟩) hH ?r3
    case c3 => (intro w' _; go_simp; (try with_reducible rfl))
    try simp only [Act.put, List.setIfInBounds_toArray, List.set_cons_zero, List.set_cons_succ]
    refine wpAnyH_take (i := 3) (oi := ⟨some 23, _, _, _, _, _⟩) (v := ?v4) rfl (by kernel_rfl) (by kernel_rfl) (by kernel_rfl) (fun _ _ _ h => h) (Or.inl ⟨rfl, ?c4⟩) hH ?r4
    case c4 => (intro w' hS; have c19 := hS.1.at_ 19 _ rfl; go_simp; (try with_reducible rfl))
    try simp only [Act.put, List.setIfInBounds_toArray, List.set_cons_zero, List.set_cons_succ]
    refine wpAnyH_take (i := 4) (oi := ⟨some 24, _, _, _, _, _⟩) (v := ?v5) rfl (by kernel_rfl) (by kernel_rfl) (by kernel_rfl) (fun _ _ _ h => h) (Or.inl ⟨rfl, ?c5⟩) hH ?r5
    case c5 => (intro w' hS; obtain ⟨x0, x1, x2, x3, x4⟩ := Ky.ky_cells hS.2.1; go_simp; (try with_reducible rfl))
    try simp only [Act.put, List.setIfInBounds_toArray, List.set_cons_zero, List.set_cons_succ]
    refine wpAnyH_take (i := 5) (oi := ⟨some 25, _, _, _, _, _⟩) (v := ?v6) rfl (by kernel_rfl) (by kernel_rfl) (by kernel_rfl) (fun _ _ _ h => h) (Or.inl ⟨rfl, ?c6⟩) hH ?r6
    case c6 => (intro w' hS; go_simp; rw [HL.out w' hS.1.map]; simp only [Result.andThen_ok]; (try with_reducible rfl))
    try simp only [Act.put, List.setIfInBounds_toArray, List.set_cons_zero, List.set_cons_succ]
    refine wpAnyH_take (i := 6) (oi := ⟨some 19, _, _, _, _, _⟩) (v := ?v7) rfl (by kernel_rfl) (by kernel_rfl) (by kernel_rfl) (fun _ _ _ h => h) (Or.inl ⟨rfl, ?c7⟩) hH ?r7
    case c7 => (intro w' _; go_simp; (try with_reducible rfl))
    try simp only [Act.put, List.setIfInBounds_toArray, List.set_cons_zero, List.set_cons_succ]
    refine wpAnyH_take (i := 7) (oi := ⟨some 26, _, _, _, _, _⟩) (v := ?v8) rfl (by kernel_rfl) (by kernel_rfl) (by kernel_rfl) (fun _ _ _ h => h) (Or.inl ⟨rfl, ?c8⟩) hH ?r8
    case c8 => (intro w' _; go_simp; (try with_reducible rfl))
    try simp only [Act.put, List.setIfInBounds_toArray, List.set_cons_zero, List.set_cons_succ]
    refine wpAnyH_take (i := 8) (oi := ⟨some 27, _, _, _, _, _⟩) (v := ?v9) rfl (by kernel_rfl) (by kernel_rfl) (by kernel_rfl) (fun _ _ _ h => h) (Or.inl ⟨rfl, ?c9⟩) hH ?r9
    case c9 => (intro w' _; go_simp; (try with_reducible rfl))
    try simp only [Act.put, List.setIfInBounds_toArray, List.set_cons_zero, List.set_cons_succ]
    refine wpAnyH_ready (rs := [9]) (by kernel_rfl) (by simp) (AllReadyH.cons rfl (fun K hK => ?_) (AllReadyH.nil))
    go_simp
    have e0 := (Blk.box W2 #[.int .u64 0, .bool false] 93).drew.frozen 0
    have e1 := (Blk.box W2 #[.int .u64 0, .bool false] 93).drew.frozen 1
    refine hK.out _ _ (⟨hH.1.alloc _, hH.2.1.alloc _, hH.2.2.1.alloc _, hH.2.2.2.1.alloc _, hH.2.2.2.2⟩) (fun hH => ?_)
    clear hK K
    try simp only [Act.put, List.setIfInBounds_toArray, List.set_cons_zero, List.set_cons_succ]
    refine wpAnyH_ready (rs := [10]) (by kernel_rfl) (by simp) (AllReadyH.cons rfl (fun K hK => ?_) (AllReadyH.nil))
    go_simp
    clear e0 e1
    refine hK.out _ _ (⟨(HQ.out.1.alloc _).drew, (HQ.out.2.1.alloc _).drew, (HQ.out.2.2.1.alloc _).drew, (HQ.out.2.2.2.1.alloc _).next (Below.refl _ _).drew, HQ.out.2.2.2.2⟩) (fun hH => ?_)
    clear hK K
    have HE := Lib.hid (Blk.box W2 #[.int .u64 y, .bool d] 93).drew
    try simp only [Act.put, List.setIfInBounds_toArray, List.set_cons_zero, List.set_cons_succ]
    refine wpAnyH_take (i := 11) (oi := ⟨some 8, _, _, _, _, _⟩) (v := ?v10) rfl (by kernel_rfl) (by kernel_rfl) (by kernel_rfl) (fun _ _ _ h => h) (Or.inl ⟨rfl, ?c10⟩) hH ?r10
    case c10 => (intro w' _; go_simp; (try with_reducible rfl))
    try simp only [Act.put, List.setIfInBounds_toArray, List.set_cons_zero, List.set_cons_succ]
    refine wpAnyH_done (by kernel_rfl) ?_ _
    have HQ3 := Lib.hid hH
    obtain ⟨g7, hg7⟩ : ∃ g, g = W2.heap.size := ⟨_, rfl⟩
    obtain ⟨W3, hW3⟩ : ∃ v, v = (W2.alloc (.cells #[.int .u64 y, .bool d] 93)).drew := ⟨_, rfl⟩
    simp only [← hg7, ← hW3] at *
    clear hg7 hW3 hH HQ
    have HE3 := Lib.hid (HENV.out.only HQ3.out.2.2.2.1 HFAR.out)
    obtain ⟨x0, x1, x2, x3, x4⟩ := Ky.ky_cells HQ3.out.2.1
    obtain ⟨p0, p1, p2, p3, p4, p5, p6⟩ := Fs.pk_cells HQ3.out.2.2.1
    have e0 := HE.out.cell 0 _ rfl
    have e1 := HE.out.cell 1 _ rfl
    go_wp2_with fail
    go_at_call 40
    refine (HOPN.out W3 (HMK.out W3 HQ3.out.1) HE3.out hk).mono ?_
    rintro e w4 ⟨rfl, hp4, ho4⟩
    have HP4 := Lib.hid hp4
    have HO4 := Lib.hid (HQ3.out.2.2.2.1.trans ho4 (fun j e => .inl e))
    clear hp4 ho4 x0 x1 x2 x3 x4 p0 p1 p2 p3 p4 p5 p6 e0 e1
    go_wp2_with fail
    go_ret
    have hv := HV.out
    have hz := HZ.out
    rw [hk] at hv hz
    subst hv hz
    exact ⟨rfl, HP4.out, HO4.out⟩
  | some f =>
    obtain ⟨y, hy⟩ : ∃ y, y = FloM.gI f.c f.n f.s := ⟨_, rfl⟩
    obtain ⟨d, hd⟩ : ∃ d, d = f.dn := ⟨_, rfl⟩
    have HL : Hid (∀ w', MapAt w' M s1.fs → (Instr.lookup 56 (.map (some M)) (kyV k) true).run Tryz.prog w' = .ok (.tuple #[enW y d, .bool true]) w') := fun w' hm => by rw [hy, hd]; exact look_some hm HI2.out.oks hk
    have HENT : Hid (enV f = enW y d) := by show _ = _; rw [hy, hd]
    clear hy hd
    refine wp_region_held_drew (S := fun w' => Raw w' O B M N T x li s1.rl s1.fs s1.tl ∧ Blk w' g5 (Ky.kyc k.a k.b k.p k.q k.r) 45 ∧ Blk w' w.heap.size (Ma.pK p) 41 ∧ Only O w w' ∧ w.heap.size ≤ g5) (by kernel_rfl) (⟨HQ.out.1.drew, HQ.out.2.1.drew, HQ.out.2.2.1.drew, HQ.out.2.2.2.1.next (Below.refl _ W2).drew, HQ.out.2.2.2.2⟩) (fun hH => ?_)
    refine wpAnyH_take (i := 0) (oi := ⟨some 20, _, _, _, _, _⟩) (v := ?v101) rfl (by kernel_rfl) (by kernel_rfl) (by kernel_rfl) (fun _ _ _ h => h) (Or.inl ⟨rfl, ?c101⟩) hH ?r101
    case c101 => (intro w' _; go_simp; (try with_reducible rfl))
    try simp only [Act.put, List.setIfInBounds_toArray, List.set_cons_zero, List.set_cons_succ]
    refine wpAnyH_take (i := 1) (oi := ⟨some 21, _, _, _, _, _⟩) (v := ?v102) rfl (by kernel_rfl) (by kernel_rfl) (by kernel_rfl) (fun _ _ _ h => h) (Or.inl ⟨rfl, ?c102⟩) hH ?r102
    case c102 => (intro w' _; go_simp; (try with_reducible rfl))
    try simp only [Act.put, List.setIfInBounds_toArray, List.set_cons_zero, List.set_cons_succ]
    refine wpAnyH_take (i := 2) (oi := ⟨some 22, _, _, _, _, _⟩) (v := ?v103) rfl (by kernel_rfl) (by kernel_rfl) (by kernel_rfl) (fun _ _ _ h => h) (Or.inl ⟨rfl, ?c103⟩) hH ?r103
    case c103 => (intro w' _; go_simp; (try with_reducible rfl))
    try simp only [Act.put, List.setIfInBounds_toArray, List.set_cons_zero, List.set_cons_succ]
    refine wpAnyH_take (i := 3) (oi := ⟨some 23, _, _, _, _, _⟩) (v := ?v104) rfl (by kernel_rfl) (by kernel_rfl) (by kernel_rfl) (fun _ _ _ h => h) (Or.inl ⟨rfl, ?c104⟩) hH ?r104
    case c104 => (intro w' hS; have c19 := hS.1.at_ 19 _ rfl; go_simp; (try with_reducible rfl))
    try simp only [Act.put, List.setIfInBounds_toArray, List.set_cons_zero, List.set_cons_succ]
    refine wpAnyH_take (i := 4) (oi := ⟨some 24, _, _, _, _, _⟩) (v := ?v105) rfl (by kernel_rfl) (by kernel_rfl) (by kernel_rfl) (fun _ _ _ h => h) (Or.inl ⟨rfl, ?c105⟩) hH ?r105
    case c105 => (intro w' hS; obtain ⟨x0, x1, x2, x3, x4⟩ := Ky.ky_cells hS.2.1; go_simp; (try with_reducible rfl))
    try simp only [Act.put, List.setIfInBounds_toArray, List.set_cons_zero, List.set_cons_succ]
    refine wpAnyH_take (i := 5) (oi := ⟨some 25, _, _, _, _, _⟩) (v := ?v106) rfl (by kernel_rfl) (by kernel_rfl) (by kernel_rfl) (fun _ _ _ h => h) (Or.inl ⟨rfl, ?c106⟩) hH ?r106
    case c106 => (intro w' hS; go_simp; rw [HL.out w' hS.1.map]; simp only [Result.andThen_ok]; (try with_reducible rfl))
    try simp only [Act.put, List.setIfInBounds_toArray, List.set_cons_zero, List.set_cons_succ]
    refine wpAnyH_take (i := 6) (oi := ⟨some 19, _, _, _, _, _⟩) (v := ?v107) rfl (by kernel_rfl) (by kernel_rfl) (by kernel_rfl) (fun _ _ _ h => h) (Or.inl ⟨rfl, ?c107⟩) hH ?r107
    case c107 => (intro w' _; go_simp; (try with_reducible rfl))
    try simp only [Act.put, List.setIfInBounds_toArray, List.set_cons_zero, List.set_cons_succ]
    refine wpAnyH_take (i := 7) (oi := ⟨some 26, _, _, _, _, _⟩) (v := ?v108) rfl (by kernel_rfl) (by kernel_rfl) (by kernel_rfl) (fun _ _ _ h => h) (Or.inl ⟨rfl, ?c108⟩) hH ?r108
    case c108 => (intro w' _; go_simp; (try with_reducible rfl))
    try simp only [Act.put, List.setIfInBounds_toArray, List.set_cons_zero, List.set_cons_succ]
    refine wpAnyH_take (i := 8) (oi := ⟨some 27, _, _, _, _, _⟩) (v := ?v109) rfl (by kernel_rfl) (by kernel_rfl) (by kernel_rfl) (fun _ _ _ h => h) (Or.inl ⟨rfl, ?c109⟩) hH ?r109
    case c109 => (intro w' _; go_simp; (try with_reducible rfl))
    try simp only [Act.put, List.setIfInBounds_toArray, List.set_cons_zero, List.set_cons_succ]
    refine wpAnyH_ready (rs := [9]) (by kernel_rfl) (by simp) (AllReadyH.cons rfl (fun K hK => ?_) (AllReadyH.nil))
    go_simp
    have e0 := (Blk.box W2 #[.int .u64 0, .bool false] 93).drew.frozen 0
    have e1 := (Blk.box W2 #[.int .u64 0, .bool false] 93).drew.frozen 1
    refine hK.out _ _ (⟨hH.1.alloc _, hH.2.1.alloc _, hH.2.2.1.alloc _, hH.2.2.2.1.alloc _, hH.2.2.2.2⟩) (fun hH => ?_)
    clear hK K
    try simp only [Act.put, List.setIfInBounds_toArray, List.set_cons_zero, List.set_cons_succ]
    refine wpAnyH_ready (rs := [10]) (by kernel_rfl) (by simp) (AllReadyH.cons rfl (fun K hK => ?_) (AllReadyH.nil))
    go_simp
    clear e0 e1
    refine hK.out _ _ (⟨(HQ.out.1.alloc _).drew, (HQ.out.2.1.alloc _).drew, (HQ.out.2.2.1.alloc _).drew, (HQ.out.2.2.2.1.alloc _).next (Below.refl _ _).drew, HQ.out.2.2.2.2⟩) (fun hH => ?_)
    clear hK K
    have HE := Lib.hid (Blk.box W2 #[.int .u64 y, .bool d] 93).drew
    try simp only [Act.put, List.setIfInBounds_toArray, List.set_cons_zero, List.set_cons_succ]
    refine wpAnyH_take (i := 11) (oi := ⟨some 8, _, _, _, _, _⟩) (v := ?v110) rfl (by kernel_rfl) (by kernel_rfl) (by kernel_rfl) (fun _ _ _ h => h) (Or.inl ⟨rfl, ?c110⟩) hH ?r110
    case c110 => (intro w' _; go_simp; (try with_reducible rfl))
    try simp only [Act.put, List.setIfInBounds_toArray, List.set_cons_zero, List.set_cons_succ]
    refine wpAnyH_done (by kernel_rfl) ?_ _
    have HQ3 := Lib.hid hH
    obtain ⟨g7, hg7⟩ : ∃ g, g = W2.heap.size := ⟨_, rfl⟩
    obtain ⟨W3, hW3⟩ : ∃ v, v = (W2.alloc (.cells #[.int .u64 y, .bool d] 93)).drew := ⟨_, rfl⟩
    simp only [← hg7, ← hW3] at *
    clear hg7 hW3 hH HQ
    have HE3 := Lib.hid (HENV.out.only HQ3.out.2.2.2.1 HFAR.out)
    obtain ⟨x0, x1, x2, x3, x4⟩ := Ky.ky_cells HQ3.out.2.1
    obtain ⟨p0, p1, p2, p3, p4, p5, p6⟩ := Fs.pk_cells HQ3.out.2.2.1
    have e0 := HE.out.cell 0 _ rfl
    have e1 := HE.out.cell 1 _ rfl
    go_wp2_with fail
    go_at_call 39
    have HFO := HFOL.out W3 f (HMK.out W3 HQ3.out.1) HE3.out hk
    rw [HENT.out] at HFO
    refine HFO.mono ?_
    rintro e w4 ⟨rfl, hp4, ho4⟩
    have HP4 := Lib.hid hp4
    have HO4 := Lib.hid (HQ3.out.2.2.2.1.trans ho4 (fun j e => .inl e))
    clear hp4 ho4 x0 x1 x2 x3 x4 p0 p1 p2 p3 p4 p5 p6 e0 e1
    go_wp2_with fail
    go_ret
    have hv := HV.out
    have hz := HZ.out
    rw [hk] at hv hz
    subst hv hz
    exact ⟨rfl, HP4.out, HO4.out⟩
end Au
end Go.Proofs.YtgcnhbjoalemlaaGreatDoor
/- Layer 18: the contracts of Stat, Count, Swap. -/
set_option linter.unusedVariables false
set_option linter.unusedSimpArgs false
set_option maxRecDepth 100000
namespace Go.Proofs.YtgcnhbjoalemlaaGreatDoor
open Go.ChangeShapes Go.WideShapes Go.ChangeAt Go.RowKit Go.Mtl Go.Lib
namespace Au
open AutM
open RulM (R)

theorem verdict_any (v : Int) (w : World) : Calls Tryz.prog 35 #[.int .i64 v] w fun e w' => e = .returned (.bool (decide (1 ≤ v ∧ v ≤ 5))) ∧ w = w' := by
  by_cases h1 : 1 ≤ v
  · by_cases h5 : v ≤ 5
    · rw [decide_eq_true ⟨h1, h5⟩]
      go_enter Tryz.func35, Tryz.ntmps35
      go_wp2_with fail
      go_ret
      exact ⟨rfl, rfl⟩
    · rw [decide_eq_false (fun h => h5 h.2)]
      have d5 : decide (v ≤ 5) = false := decide_eq_false h5
      clear h5
      go_enter Tryz.func35, Tryz.ntmps35
      go_wp2_with fail
      go_ret
      exact ⟨rfl, rfl⟩
  · rw [decide_eq_false (fun h => h1 h.1)]
    have d1 : decide (1 ≤ v) = false := decide_eq_false h1
    clear h1
    go_enter Tryz.func35, Tryz.ntmps35
    go_wp2_with fail
    go_ret
    exact ⟨rfl, rfl⟩

/-- A counter. -/
def statV (s : St) (v : Int) : Int := if 1 ≤ v ∧ v ≤ 5 then s.tl v.toNat else 0
/-- A counter, one greater where it may be. -/
def tlN (t : Nat → Int) (j : Nat) (i : Nat) : Int := if i = j then t i + 1 else t i
def countS (s : St) (v : Int) : St := if 1 ≤ v ∧ v ≤ 5 ∧ s.tl v.toNat ≠ 18446744073709551615 then { s with tl := tlN s.tl v.toNat } else s
theorem Inv.count {N : Int} {s : St} (H : Inv N s) (v : Int) : Inv N (countS s v) := by
  unfold countS
  split
  · rename_i h
    refine ⟨H.fit, H.cnt, H.cap, H.cap1, H.oks, H.rls, H.few, fun i => ?_⟩
    show 0 ≤ tlN s.tl v.toNat i ∧ tlN s.tl v.toNat i < 18446744073709551616
    have := H.tl i
    have h3 := h.2.2
    unfold tlN
    split
    · rename_i e; subst e; omega
    · exact this
  · exact H
section
variable {w : World} {O : Nat → Prop} {B M : Nat} {N : Int} {T : Nat → Int} {s : St}
theorem stat_p (H : PAt w O B M N T s) (v : Int) :
    Calls Tryz.prog 12 #[ptr B, .int .i64 v] w fun e w' => e = .returned (.int .u64 (statV s v)) ∧ Below w.heap.size w w' := by
  obtain ⟨⟨li, H⟩, hi, _⟩ := H
  have c20 := H.at_ 20 _ rfl
  have c21 := H.at_ 21 _ rfl
  have c22 := H.at_ 22 _ rfl
  have c23 := H.at_ 23 _ rfl
  have c24 := H.at_ 24 _ rfl
  have c25 := H.at_ 25 _ rfl
  have HV := Lib.hid (fun W => verdict_any v W)
  unfold statV
  by_cases h : 1 ≤ v ∧ v ≤ 5
  · rw [decide_eq_true h] at HV
    rw [if_pos h]
    obtain rfl | rfl | rfl | rfl | rfl : v = 1 ∨ v = 2 ∨ v = 3 ∨ v = 4 ∨ v = 5 := by omega
    all_goals
      clear H hi h
      go_enter Tryz.func12, Tryz.ntmps12
      go_wp2_with fail
      go_at_call 35
      refine (HV.out _).mono ?_
      rintro e w' ⟨rfl, rfl⟩
      go_wp2_with fail
      go_ret
      exact ⟨rfl, Below.refl _ _⟩
  · rw [decide_eq_false h] at HV
    rw [if_neg h]
    clear H hi h c20 c21 c22 c23 c24 c25
    go_enter Tryz.func12, Tryz.ntmps12
    go_wp2_with fail
    go_at_call 35
    refine (HV.out _).mono ?_
    rintro e w' ⟨rfl, rfl⟩
    go_wp2_with fail
    go_ret
    exact ⟨rfl, Below.refl _ _⟩
end
end Au
end Go.Proofs.YtgcnhbjoalemlaaGreatDoor
/- Layer 18: plain mathematics: what is done to a firewall, one thing after the other. -/
set_option linter.unusedVariables false
set_option linter.unusedSimpArgs false
namespace Go.Proofs.YtgcnhbjoalemlaaGreatDoor
open Go.ChangeShapes Go.WideShapes Go.ChangeAt Go.RowKit Go.Mtl Go.Lib
namespace Au
open AutM
open RulM (R)
open MatM (K fst accB idxI)
/-- Something that is done; va: the slice that its rules come in. -/
structure Dk where
  kd : Nat
  n : Int
  p : K
  k : Ke
  l : List R
  va : Value
structure Dk.Ok (x : Dk) : Prop where
  kd : x.kd < 256
  n : -9223372036854775808 ≤ x.n ∧ x.n ≤ 9223372036854775807
  p : x.p.Ok
  k : x.k.Ok
  l : ∀ r ∈ x.l, r.Ok
/-- Its fifteen cells. -/
abbrev doC (x : Dk) : Array Value :=
  #[.int .u8 (x.kd : Int), .int .i64 x.n, .int .u8 (x.p.pr : Int), .int .u32 (x.p.sr : Int), .int .u32 (x.p.ds : Int), .int .u16 (x.p.sp : Int), .int .u16 (x.p.dp : Int), .int .u8 (x.p.fl : Int), .int .u8 (x.p.kd : Int),
    .int .u32 (x.k.a : Int), .int .u32 (x.k.b : Int), .int .u16 (x.k.p : Int), .int .u16 (x.k.q : Int), .int .u8 (x.k.r : Int), x.va]
/-- One step of 'some'. -/
def stepS (N : Int) (T : Nat → Int) (s : St) (x : Dk) : St :=
  if x.kd % 8 = 0 then tickS s x.n else if x.kd % 8 = 1 then swapS s (few x.l) else if x.kd % 8 = 2 then delS s x.k else if x.kd % 8 = 3 then dropS s x.k else actS N T s x.p
def runS (N : Int) (T : Nat → Int) (s : St) (xs : List Dk) : St := xs.foldl (stepS N T) s
theorem Inv.step {N : Int} {T : Nat → Int} {s : St} (H : Inv N s) {x : Dk} (hx : x.Ok) : Inv N (stepS N T s x) := by
  unfold stepS
  split
  · exact H.tick x.n
  · split
    · exact H.swap (few_ok hx.l)
    · split
      · exact H.del x.k
      · split
        · exact H.drop x.k
        · exact H.act hx.p
theorem Inv.run {N : Int} {T : Nat → Int} {s : St} (H : Inv N s) {xs : List Dk} (hx : ∀ x ∈ xs, x.Ok) : Inv N (runS N T s xs) := by
  unfold runS
  induction xs generalizing s with
  | nil => exact H
  | cons x xs ih => exact ih (H.step (hx x List.mem_cons_self)) fun y hy => hx y (List.mem_cons_of_mem _ hy)
end Au
end Go.Proofs.YtgcnhbjoalemlaaGreatDoor
