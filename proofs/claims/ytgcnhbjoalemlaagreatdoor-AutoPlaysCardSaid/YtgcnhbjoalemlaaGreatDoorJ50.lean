/- Several texts of this proof in one file, each in its own namespace. -/
import Derived.Test.YtgcnhbjoalemlaaGreatDoorJ49
import Derived.Test.YtgcnhbjoalemlaaGreatDoorJ47
import Derived.Test.YtgcnhbjoalemlaaGreatDoorJ43
import Derived.Test.YtgcnhbjoalemlaaGreatDoorJ30
import Derived.Laws.StructEq
import Derived.KernelRfl
import Derived.Test.YtgcnhbjoalemlaaGreatDoorJ45
import Derived.Test.YtgcnhbjoalemlaaGreatDoorJ35
/- Keys of a firewall: all flows' keys, in order. -/
set_option linter.unusedVariables false
set_option linter.unusedSimpArgs false
set_option maxRecDepth 100000
namespace Go.Proofs.YtgcnhbjoalemlaaGreatDoor
open Go.ChangeShapes Go.WideShapes Go.ChangeAt Go.RowKit Go.Mtl Go.Lib
namespace Au
open AutM
open Go.Shelf
open Go.Sort hiding Below
/-- A slice that reads as these keys, in a block at or behind base. -/
def Kys (W : World) (base : Nat) (p : Option Addr) (ks : List Ke) : Prop := 0 < ks.length → ∃ g, p = some ⟨g, 0, none⟩ ∧ base ≤ g ∧ g < W.heap.size ∧ ∀ i k, ks[i]? = some k → At5 W g i k
theorem kcs_get (ks : List Ke) (i u : Nat) (k : Ke) (h : ks[i]? = some k) (hu : u < 5) : (kcs ks)[i * 5 + u]? = (k5 k)[u]? := by
  induction ks generalizing i with
  | nil => cases h
  | cons x ks ih =>
    have e : kcs (x :: ks) = k5 x ++ kcs ks := rfl
    rw [e]
    cases i with
    | zero =>
      obtain rfl : x = k := Option.some.inj h
      rw [Nat.zero_mul, Nat.zero_add, List.getElem?_append_left (by show u < 5; exact hu)]
    | succ i =>
      rw [List.getElem?_append_right (by show 5 ≤ (i + 1) * 5 + u; omega)]
      rw [show (i + 1) * 5 + u - (k5 x).length = i * 5 + u by show (i + 1) * 5 + u - 5 = i * 5 + u; omega]
      exact ih i h
theorem row_at {W : World} {g cap n : Nat} {cur : Array Value} {t : TypeId} {ks : List Ke} (hb : W.heap[g]? = some (.cells cur t (0, 0))) (ht : cur.toList.take (n * 5) = kcs ks) (hn : ks.length = n) (i u : Nat) (k : Ke) (h : ks[i]? = some k) (hu : u < 5) : W.cell? ⟨g, i * 5 + u, none⟩ = (k5 k)[u]? := by
  have hi : i < ks.length := (List.getElem?_eq_some_iff.1 h).1
  have h1 := kcs_get ks i u k h hu
  rw [← ht, List.getElem?_take_of_lt (by omega)] at h1
  rw [cell_of_row W g _ _ _ _ hb, ← h1]
  simp
theorem at5_of {W : World} {g i : Nat} {k : Ke} (h : ∀ u, u < 5 → W.cell? ⟨g, i * 5 + u, none⟩ = (k5 k)[u]?) : At5 W g i k :=
  ⟨h 0 (by omega), h 1 (by omega), h 2 (by omega), h 3 (by omega), h 4 (by omega)⟩
/-- What a row of the call's own gives. -/
theorem own_kys {W : World} {base n : Nat} {p : Option Addr} {c : Nat} {ks : List Ke} (h : W.ownsRow base 45 5 (.slice p n c) n (kcs ks)) (hn : ks.length = n) : Kys W base p ks := by
  intro hp
  rcases h.2 with ⟨_, h0⟩ | ⟨g, cap, cur, e, hbg, hb, _, _, _, ht⟩
  · omega
  · injection e with e1 _ _
    subst e1
    exact ⟨g, rfl, hbg, (Array.getElem?_eq_some_iff.1 hb).1, fun i k hk => at5_of fun u hu => row_at (cap := cap) hb ht hn i u k hk hu⟩
theorem lift_ok (ks : List Ke) (h : ∀ k ∈ ks, k.Ok) : ∃ d : List KO, d.map (·.1) = ks := by
  induction ks with
  | nil => exact ⟨[], rfl⟩
  | cons k ks ih =>
    obtain ⟨d, hd⟩ := ih fun x hx => h x (List.mem_cons_of_mem _ hx)
    exact ⟨⟨k, h k List.mem_cons_self⟩ :: d, by rw [List.map_cons, hd]⟩
theorem holds_own {W : World} {g cap n : Nat} {cur : Array Value} {t : TypeId} {d : List KO} (hb : W.heap[g]? = some (.cells cur t (0, 0))) (ht : cur.toList.take (n * 5) = kcs (d.map (·.1))) (hn : d.length = n) : HoldsK encK 5 W g 0 d.toArray := by
  intro q hq
  have hq2 : q < d.toArray.size * 5 := by simpa using hq
  have hq3 : q < d.length * 5 := by simpa using hq2
  have hi : q / 5 < d.length := by omega
  rw [get_flatK encK 5 d.toArray q hq2]
  refine ⟨?_, by simp [World.frozen?, hb]⟩
  have h1 : (d.map (·.1))[q / 5]? = some d[q / 5].1 := by rw [List.getElem?_map, List.getElem?_eq_getElem hi]; rfl
  have h2 := row_at (cap := cap) hb ht (by rw [List.length_map]; exact hn) (q / 5) (q % 5) _ h1 (by omega)
  rw [show q / 5 * 5 + q % 5 = q by omega] at h2
  rw [Nat.zero_add, h2]
  have e : d.toArray[q / 5]! = d[q / 5] := by simp [hi]
  rw [e]
  have hm : q % 5 < 5 := by omega
  obtain h | h | h | h | h : q % 5 = 0 ∨ q % 5 = 1 ∨ q % 5 = 2 ∨ q % 5 = 3 ∨ q % 5 = 4 := by omega
  all_goals rw [h]; rfl
theorem sorted_keys {fs : List Fl} {n : Nat} {d d' : Array KO} {ks : List Ke} (ho : Oks fs) (hk : ks.Perm (fs.map (·.k))) (hd : d.toList.map (·.1) = ks) (hp : d'.toList.Perm d.toList) (hs : SortedIn ltK 0 n d') (hn : d'.size = n) : d'.toList.map (·.1) = fs.map (·.k) := by
  refine keys_of_perm ho (((hp.map (·.1)).trans (by rw [hd])).trans hk) ?_
  rw [List.pairwise_map, List.pairwise_iff_getElem]
  intro i j hi hj hij
  have h := hs i j (Nat.zero_le _) hij (by rw [← hn]; simpa using hj)
  unfold ltK at h
  have hj2 : j < d'.size := by simpa using hj
  have hi2 : i < d'.size := by simpa using hi
  rw [getElem!_pos d' i hi2, getElem!_pos d' j hj2] at h
  simpa using h
set_option maxHeartbeats 2000000 in
theorem keys_any {w : World} {O : Nat → Prop} {B M : Nat} {N : Int} {T : Nat → Int} {s : St} (H : PAt w O B M N T s) :
    Calls Tryz.prog 19 #[ptr B] w fun e w' => ∃ p c, e = .returned (.slice p s.fs.length c) ∧ Kys w' w.heap.size p (s.fs.map (·.k)) ∧ Below w.heap.size w w' := by
  by_cases hf : s.fs.length ≤ 1
  · refine (keys_few H hf).mono ?_
    rintro e w' ⟨v, rfl, ho, hb⟩
    have hv : ∃ p c, v = .slice p s.fs.length c := by
      rcases ho.2 with ⟨rfl, h⟩ | ⟨g, cap, cur, rfl, _⟩
      · exact ⟨none, 0, by rw [h]⟩
      · exact ⟨_, _, rfl⟩
    obtain ⟨p, c, rfl⟩ := hv
    exact ⟨p, c, rfl, own_kys ho (by rw [List.length_map]), hb⟩
  obtain ⟨⟨li, H⟩, hi, _⟩ := H
  have H4 := H.at_ 19 (.map (some M)) rfl
  have HM := Lib.hid H.map
  have HI := Lib.hid hi.oks
  have hcnt : s.fs.length ≤ 4095 := by have h1 := hi.cnt; have h2 := hi.cap; have h3 := hi.cap1; omega
  have HC := Lib.hid hcnt
  have HF := Lib.hid hf
  clear H hi hcnt hf
  go_enter Tryz.func19, Tryz.ntmps19
  go_wp2_with fail
  go_at_call 43
  refine (maps_any M w).mono ?_
  rintro e w1 ⟨rfl, rfl⟩
  go_wp2_with fail
  go_at_call 42
  refine (collected (fs := s.fs) (Bm := w.heap.size) (M := M) ((Blk.box w #[.map (some M)] 56).cell 0 _ rfl) (HM.out.keep (Below.heap_alloc _ _ _ HM.out.lt)) (by have := HC.out; omega)).mono ?_
  rintro e w2 ⟨v, ks, rfl, hp, ho, hb⟩
  have hlen : ks.length = s.fs.length := by have := hp.length_eq; simpa using this
  have hb2 : Below w.heap.size w w2 := below_then (below_box w (.cells #[.map (some M)] 56)) hb
  obtain ⟨d, hd⟩ := lift_ok ks fun k hk => by
    obtain ⟨f, hf, rfl⟩ := List.mem_map.1 (hp.mem_iff.1 hk)
    exact (HI.out.ok f hf).k
  rcases ho.2 with ⟨_, h0⟩ | ⟨g, cap, cur, rfl, hbg, hgb, hle, hcm, hsz, ht⟩
  · exact absurd h0 (by rw [hlen]; have := HF.out; omega)
  obtain ⟨n, hn⟩ : ∃ n, n = ks.length := ⟨_, rfl⟩
  have hgl : g < w2.heap.size := (Array.getElem?_eq_some_iff.1 hgb).1
  rw [← hn] at ht ⊢
  have hdn : d.length = n := by rw [hn, ← hd, List.length_map]
  have HR : Hid (RowK g w2.heap.size (w2.alloc (.cells #[.slice (some ⟨g, 0, none⟩) n cap] 74)).heap.size n cap (w2.alloc (.cells #[.slice (some ⟨g, 0, none⟩) n cap] 74)) d.toArray) :=
    ⟨holds_own (cap := cap) ((heap_alloc_old w2 _ hgl).trans hgb) (by rw [hd]; exact ht) hdn, by simpa using hdn, (Blk.box w2 #[.slice (some ⟨g, 0, none⟩) n cap] 74).cell 0 _ rfl, Nat.le_refl _, by simp; omega, by simp⟩
  have HS := Lib.hid (sort_keys HR.out (by omega) (by rw [hn, hlen]; have := HF.out; omega) (by rw [hn, hlen]; have := HC.out; omega))
  have HFIN : Hid (∀ w4 (d' : Array KO), RowK g w2.heap.size (w2.alloc (.cells #[.slice (some ⟨g, 0, none⟩) n cap] 74)).heap.size n cap w4 d' → Bar g (w2.alloc (.cells #[.slice (some ⟨g, 0, none⟩) n cap] 74)) w4 → d'.toList.Perm d.toArray.toList → SortedIn ltK 0 n d' →
      n = s.fs.length ∧ Kys w4 w.heap.size (some ⟨g, 0, none⟩) (s.fs.map (·.k)) ∧ Below w.heap.size w w4) := by
    intro w4 d' hr hbar hper hsrt
    have hwg : w.heap.size ≤ g := Nat.le_trans (below_box w (.cells #[.map (some M)] 56)).size hbg
    have hks := sorted_keys HI.out hp (d := d.toArray) (by simpa using hd) hper hsrt hr.size
    refine ⟨hn.trans hlen, fun _ => ⟨g, rfl, hwg, by have := hr.le; have := hr.bm; omega, fun i k hk => ?_⟩, (below_then hb2 (below_box w2 _)).trans (So.Bar.to_below hbar hwg (below_then hb2 (below_box w2 _)).size)⟩
    rw [← hks, List.getElem?_map] at hk
    obtain ⟨x, hx, rfl⟩ := Option.map_eq_some_iff.1 hk
    have hi : i < d'.size := by have := (List.getElem?_eq_some_iff.1 hx).1; simpa using this
    have h5 := hr.at5 i (by rw [← hr.size]; exact hi)
    have e : d'[i]! = x := by
      rw [getElem!_pos d' i hi]
      have := (List.getElem?_eq_some_iff.1 hx).2
      simpa using this
    rw [e] at h5
    exact h5
  clear H4 HM hp ho hb hb2 hd hbg hgb hle hcm hsz ht hn hgl hdn HR hlen
  go_wp2_with fail
  go_at_call 44
  refine HS.out.mono ?_
  rintro e w4 ⟨rfl, d', hr, hbar, hper, hsrt⟩
  have hbx := hr.box
  obtain ⟨f1, f2, f3⟩ := HFIN.out w4 d' hr hbar hper hsrt
  have F1 := Lib.hid f1
  have F2 := Lib.hid f2
  have F3 := Lib.hid f3
  clear hr hbar hper hsrt f1 f2 f3 HFIN HS
  go_wp2_with fail
  go_ret
  refine ⟨some ⟨g, 0, none⟩, cap, ?_, F2.out, F3.out⟩
  rw [← F1.out]
  rfl
end Au
end Go.Proofs.YtgcnhbjoalemlaaGreatDoor
/- Layer 18: the walk of AutoOnce. (Written by wip/tools/mkAulO.py.) -/
set_option linter.unusedVariables false
set_option linter.unusedSimpArgs false
set_option maxRecDepth 100000
namespace Go.Proofs.YtgcnhbjoalemlaaGreatDoor
open Go.ChangeShapes Go.WideShapes Go.ChangeAt Go.RowKit Go.Mtl Go.Lib
namespace Au
open AutM
open RulM (R)
open MatM (K)
/-- The keys that Keys handed back, in block g. -/
structure KyG (W : World) (g : Nat) (ks : List Ke) : Prop where
  lt : g < W.heap.size
  at_ : ∀ (i : Nat) (k : Ke), ks[i]? = some k → At5 W g i k
theorem At5.only {O : Nat → Prop} {W W' : World} {g i : Nat} {k : Ke} (h : At5 W g i k) (ho : Only O W W') (hg : g < W.heap.size) (hn : ¬ O g) : At5 W' g i k :=
  ⟨(ho.cell (p := ⟨g, i * 5, none⟩) hg hn).trans h.c0, (ho.cell (p := ⟨g, i * 5 + 1, none⟩) hg hn).trans h.c1, (ho.cell (p := ⟨g, i * 5 + 2, none⟩) hg hn).trans h.c2, (ho.cell (p := ⟨g, i * 5 + 3, none⟩) hg hn).trans h.c3, (ho.cell (p := ⟨g, i * 5 + 4, none⟩) hg hn).trans h.c4⟩
theorem KyG.only {O : Nat → Prop} {W W' : World} {g : Nat} {ks : List Ke} (h : KyG W g ks) (ho : Only O W W') (hn : ¬ O g) : KyG W' g ks := ⟨Nat.lt_of_lt_of_le h.lt ho.size, fun i k hk => (h.at_ i k hk).only ho h.lt hn⟩
theorem KyG.next {W W' : World} {g : Nat} {ks : List Ke} (h : KyG W g ks) (hb : Below W.heap.size W W') : KyG W' g ks := h.only (O := fun _ => False) (Only.of_below hb) (fun e => e)
theorem Das.more {w : World} {B B' : Nat} {v : Value} {xs : List Dk} (h : Das w B v xs) (hB : B ≤ B') : Das w B' v xs := by
  obtain ⟨A, c, e, h1, h2, h3, h4⟩ := h
  refine ⟨A, c, e, h1, h2, fun hn => ?_, fun x hx => (h4 x hx).mono hB⟩
  obtain ⟨b, off, e2, hb, hc⟩ := h3 hn
  exact ⟨b, off, e2, by omega, hc⟩
theorem Am.under {w w1 W : World} {O : Nat → Prop} {B M : Nat} {N : Int} {T : Nat → Int} {s : St} (H : Am w1 O B M N T s W) (hb : Below w.heap.size w w1) : Am w O B M N T s W := ⟨H.fw, H.env, below_then hb H.bel, fun j hj => Nat.le_trans hb.size (H.new j hj)⟩
end Au
end Go.Proofs.YtgcnhbjoalemlaaGreatDoor
/- Layer 18: the walk of AutoCounts. -/
set_option linter.unusedVariables false
set_option linter.unusedSimpArgs false
set_option maxRecDepth 100000
namespace Go.Proofs.YtgcnhbjoalemlaaGreatDoor
open Go.ChangeShapes Go.WideShapes Go.ChangeAt Go.RowKit Go.Mtl Go.Lib
namespace Au
open AutM
open RulM (R)
open MatM (K fst accB)
/-- A law's blocks: the config, a packet, a key. -/
structure CW (z N : Int) (T : Nat → Int) (p : K) (k : Ke) (gc gp gk : Nat) (W : World) : Prop where
  c : Blk W gc (cfc z N T) 24
  p : Blk W gp (Ma.pK p) 41
  k : Blk W gk (Ky.kyc k.a k.b k.p k.q k.r) 45
theorem CW.only {z N : Int} {T : Nat → Int} {p : K} {k : Ke} {gc gp gk : Nat} {W W' : World} {O : Nat → Prop} (H : CW z N T p k gc gp gk W) (ho : Only O W W') (h1 : ¬ O gc) (h2 : ¬ O gp) (h3 : ¬ O gk) : CW z N T p k gc gp gk W' := ⟨Blk.only H.c ho h1, Blk.only H.p ho h2, Blk.only H.k ho h3⟩
theorem CW.next {z N : Int} {T : Nat → Int} {p : K} {k : Ke} {gc gp gk : Nat} {W W' : World} (H : CW z N T p k gc gp gk W) (hb : Below W.heap.size W W') : CW z N T p k gc gp gk W' := ⟨H.c.next hb, H.p.next hb, H.k.next hb⟩
end Au
end Go.Proofs.YtgcnhbjoalemlaaGreatDoor
/- Layer 18: the walk of AutoStays. (Written by wip/tools/mkAulT.py.) -/
set_option linter.unusedVariables false
set_option linter.unusedSimpArgs false
set_option maxRecDepth 100000
namespace Go.Proofs.YtgcnhbjoalemlaaGreatDoor
open Go.ChangeShapes Go.WideShapes Go.ChangeAt Go.RowKit Go.Mtl Go.Lib
namespace Au
open AutM
open RulM (R)
open MatM (K)
theorem fl_fields : Tryz.prog.underlying 50 = some (.struct (Tryz.prog.fieldsOf 50)) := by kernel_rfl
theorem fl_stood : Tryz.prog.stoodInHeld 50 = false := by kernel_rfl
theorem fl_lay : (Tryz.prog.fieldsOf 50).toList.map (fun f => (f.type, f.offset)) = [(3, 0), (3, 1), (3, 2)] := by kernel_rfl
theorem fl_names : (Tryz.prog.fieldsOf 50).toList.all (fun f => f.name != "_") = true := by kernel_rfl
theorem fl_same (a b c : Int) (w : World) : (Op.equalIn 10000 50 (.agg #[.int .i64 a, .int .i64 b, .int .i64 c]) (.agg #[.int .i64 a, .int .i64 b, .int .i64 c])).run Tryz.prog w = .ok true w := by
  rw [show (10000 : Nat) = 9999 + 1 from rfl, run_equalIn_struct w 9999 _ _ _ fl_fields fl_stood]
  have hl := fl_lay
  have hn := fl_names
  generalize (Tryz.prog.fieldsOf 50).toList = l at hl hn ⊢
  rcases l with _ | ⟨f1, _ | ⟨f2, _ | ⟨f3, _ | ⟨f4, l⟩⟩⟩⟩ <;> simp at hl hn
  obtain ⟨⟨t1, o1⟩, ⟨t2, o2⟩, t3, o3⟩ := hl
  obtain ⟨n1, n2, n3⟩ := hn
  have c1 : (part 3 #[.int .i64 a, .int .i64 b, .int .i64 c] 0).run Tryz.prog w = .ok (.int .i64 a) w := by simp [go_sem]
  have c2 : (part 3 #[.int .i64 a, .int .i64 b, .int .i64 c] 1).run Tryz.prog w = .ok (.int .i64 b) w := by simp [go_sem]
  have c3 : (part 3 #[.int .i64 a, .int .i64 b, .int .i64 c] 2).run Tryz.prog w = .ok (.int .i64 c) w := by simp [go_sem]
  have q : ∀ x : Int, (Op.equalIn 9999 3 (.int .i64 x) (.int .i64 x)).run Tryz.prog w = .ok (x == x) w := fun x => run_equalIn_int w 9998 _ .i64 .i64 x x (by kernel_rfl)
  simp only [Op.eqFields, ne_eq, n1, n2, n3, not_false_eq_true, if_true, t1, t2, t3, o1, o2, o3, Sem.run_bind, c1, c2, c3, Result.andThen_ok, q, Sem.run_ite, Sem.run_pure, beq_self_eq_true]
  rfl
/-- Two firewalls apart. -/
structure A2 (w : World) (Oa Ob : Nat → Prop) (Ba Ma Bb Mb : Nat) (N : Int) (T : Nat → Int) (sa sb : St) (W : World) : Prop where
  a : Am w Oa Ba Ma N T sa W
  b : Am w Ob Bb Mb N T sb W
  dis : ∀ j, Oa j → ¬ Ob j
section
variable {w W w' : World} {Oa Ob O' : Nat → Prop} {Ba Ma Bb Mb : Nat} {N : Int} {T : Nat → Int} {sa sb s' : St}
theorem A2.next (H : A2 w Oa Ob Ba Ma Bb Mb N T sa sb W) (hb : Below W.heap.size W w') : A2 w Oa Ob Ba Ma Bb Mb N T sa sb w' := ⟨H.a.next hb, H.b.next hb, H.dis⟩
theorem A2.left (H : A2 w Oa Ob Ba Ma Bb Mb N T sa sb W) (hp : PAt w' Oa Ba Ma N T s') (ho : Only Oa W w') : A2 w Oa Ob Ba Ma Bb Mb N T s' sb w' :=
  ⟨H.a.same hp ho, ⟨H.b.fw.far ho (fun j hb ha => H.dis j ha hb), (H.a.same hp ho).env, (H.a.same hp ho).bel, H.b.new⟩, H.dis⟩
theorem A2.right (H : A2 w Oa Ob Ba Ma Bb Mb N T sa sb W) (hp : PAt w' O' Bb Mb N T s') (ho : Only Ob W w') (hO : ∀ j, O' j → Ob j ∨ W.heap.size ≤ j) : A2 w Oa O' Ba Ma Bb Mb N T sa s' w' :=
  ⟨⟨H.a.fw.far ho H.dis, (H.b.turn hp ho hO).env, (H.b.turn hp ho hO).bel, H.a.new⟩, H.b.turn hp ho hO, fun j ha hb => (hO j hb).elim (H.dis j ha) (fun h => by have := H.a.fw.lt_ j ha; omega)⟩
end
theorem lk_some {s : St} {k : Ke} {f : Fl} (h : find k s.fs = some f) : lookV s k = .tuple #[.agg (Fl.gtc f.s f.n f.c), .bool true] := by unfold lookV; rw [h]
theorem lk_none {s : St} {k : Ke} (h : find k s.fs = none) : lookV s k = .tuple #[.agg (Fl.gtc 0 0 0), .bool false] := by unfold lookV; rw [h]
/-- A law's blocks: the config, a packet, a key. -/
structure C3 (z N : Int) (T : Nat → Int) (p : K) (k : Ke) (gc gp gk : Nat) (Oa Ob : Nat → Prop) (W : World) : Prop where
  cw : CW z N T p k gc gp gk W
  a : ¬ Oa gc ∧ ¬ Oa gp ∧ ¬ Oa gk
  b : ¬ Ob gc ∧ ¬ Ob gp ∧ ¬ Ob gk
section
variable {z N : Int} {T : Nat → Int} {p : K} {k : Ke} {gc gp gk : Nat} {Oa Ob O' : Nat → Prop} {W W' : World}
theorem C3.next (H : C3 z N T p k gc gp gk Oa Ob W) (hb : Below W.heap.size W W') : C3 z N T p k gc gp gk Oa Ob W' := ⟨H.cw.next hb, H.a, H.b⟩
theorem C3.left (H : C3 z N T p k gc gp gk Oa Ob W) (ho : Only Oa W W') : C3 z N T p k gc gp gk Oa Ob W' := ⟨H.cw.only ho H.a.1 H.a.2.1 H.a.2.2, H.a, H.b⟩
theorem C3.right (H : C3 z N T p k gc gp gk Oa Ob W) (ho : Only Ob W W') (hO : ∀ j, O' j → Ob j ∨ W.heap.size ≤ j) : C3 z N T p k gc gp gk Oa O' W' :=
  ⟨H.cw.only ho H.b.1 H.b.2.1 H.b.2.2, H.a, fun h => (hO _ h).elim H.b.1 (fun e => by have := H.cw.c.lt; omega), fun h => (hO _ h).elim H.b.2.1 (fun e => by have := H.cw.p.lt; omega), fun h => (hO _ h).elim H.b.2.2 (fun e => by have := H.cw.k.lt; omega)⟩
end
end Au
end Go.Proofs.YtgcnhbjoalemlaaGreatDoor
/- Layer 18: the law's does: one thing, on the program's firewall and on the reference's. (Written by wip/tools/mkAulU.py.) -/
set_option linter.unusedVariables false
set_option linter.unusedSimpArgs false
set_option maxRecDepth 100000
namespace Go.Proofs.YtgcnhbjoalemlaaGreatDoor
open Go.ChangeShapes Go.WideShapes Go.ChangeAt Go.RowKit Go.Mtl Go.Lib
namespace Au
open AutM
open RulM (R)
open MatM (K)
/-- Both firewalls, apart, made since world w. -/
structure PQ (w : World) (Oa Ob : Nat → Prop) (Ba Ma Bb : Nat) (z N : Int) (T : Nat → Int) (sa sb : St) (W : World) : Prop where
  a : PAt W Oa Ba Ma N T sa
  b : QAt W Ob Bb z N T sb
  env : Env W
  bel : Below w.heap.size w W
  na : ∀ j, Oa j → w.heap.size ≤ j
  nb : ∀ j, Ob j → w.heap.size ≤ j
  dis : ∀ j, Oa j → ¬ Ob j
theorem QAt.far_ {W : World} {O : Nat → Prop} {B : Nat} {z N : Int} {T : Nat → Int} {s : St} (H : QAt W O B z N T s) : ∀ j, O j → Far j := by obtain ⟨⟨vr, vf, vs, hist, h, _⟩, _⟩ := H; exact h.hi
section
variable {w W w' : World} {Oa Ob O' : Nat → Prop} {Ba Ma Bb : Nat} {z N : Int} {T : Nat → Int} {sa sb s' : St}
theorem PQ.next (H : PQ w Oa Ob Ba Ma Bb z N T sa sb W) (hb : Below W.heap.size W w') : PQ w Oa Ob Ba Ma Bb z N T sa sb w' := ⟨H.a.next hb, H.b.next hb, H.env.below hb, H.bel.trans (hb.mono H.bel.size), H.na, H.nb, H.dis⟩
theorem PQ.left (H : PQ w Oa Ob Ba Ma Bb z N T sa sb W) (hp : PAt w' O' Ba Ma N T s') (ho : Only Oa W w') (hO : ∀ j, O' j → Oa j ∨ W.heap.size ≤ j) : PQ w O' Ob Ba Ma Bb z N T s' sb w' :=
  ⟨hp, H.b.far ho (fun j hb ha => H.dis j ha hb), H.env.only ho H.a.far_, H.bel.trans (ho.below H.na H.bel.size), fun j hj => (hO j hj).elim (H.na j) (fun h => Nat.le_trans H.bel.size h), H.nb, fun j hj hb => (hO j hj).elim (fun h => H.dis j h hb) (fun h => by have := H.b.lt_ j hb; omega)⟩
theorem PQ.right (H : PQ w Oa Ob Ba Ma Bb z N T sa sb W) (hp : QAt w' O' Bb z N T s') (ho : Only Ob W w') (hO : ∀ j, O' j → Ob j ∨ W.heap.size ≤ j) : PQ w Oa O' Ba Ma Bb z N T sa s' w' :=
  ⟨H.a.far ho H.dis, hp, H.env.only ho H.b.far_, H.bel.trans (ho.below H.nb H.bel.size), H.na, fun j hj => (hO j hj).elim (H.nb j) (fun h => Nat.le_trans H.bel.size h), fun j ha hj => (hO j hj).elim (H.dis j ha) (fun h => by have := H.a.lt_ j ha; omega)⟩
end
/-- .. and a block g that holds cs. -/
structure DQ (w : World) (Oa Ob : Nat → Prop) (Ba Ma Bb : Nat) (z N : Int) (T : Nat → Int) (sa sb : St) (cs : Array Value) (t : TypeId) (g : Nat) (W : World) : Prop where
  pq : PQ w Oa Ob Ba Ma Bb z N T sa sb W
  xb : Blk W g cs t
  na : ¬ Oa g
  nb : ¬ Ob g
section
variable {w W w' : World} {Oa Ob O' : Nat → Prop} {Ba Ma Bb : Nat} {z N : Int} {T : Nat → Int} {sa sb s' : St} {cs : Array Value} {t : TypeId} {g : Nat}
theorem DQ.next (H : DQ w Oa Ob Ba Ma Bb z N T sa sb cs t g W) (hb : Below W.heap.size W w') : DQ w Oa Ob Ba Ma Bb z N T sa sb cs t g w' := ⟨H.pq.next hb, H.xb.next hb, H.na, H.nb⟩
theorem DQ.left (H : DQ w Oa Ob Ba Ma Bb z N T sa sb cs t g W) (hp : PAt w' O' Ba Ma N T s') (ho : Only Oa W w') (hO : ∀ j, O' j → Oa j ∨ W.heap.size ≤ j) : DQ w O' Ob Ba Ma Bb z N T s' sb cs t g w' :=
  ⟨H.pq.left hp ho hO, H.xb.only ho H.na, fun h => (hO _ h).elim H.na (fun e => by have := H.xb.lt; omega), H.nb⟩
theorem DQ.right (H : DQ w Oa Ob Ba Ma Bb z N T sa sb cs t g W) (hp : QAt w' O' Bb z N T s') (ho : Only Ob W w') (hO : ∀ j, O' j → Ob j ∨ W.heap.size ≤ j) : DQ w Oa O' Ba Ma Bb z N T sa s' cs t g w' :=
  ⟨H.pq.right hp ho hO, H.xb.only ho H.nb, H.na, fun h => (hO _ h).elim H.nb (fun e => by have := H.xb.lt; omega)⟩
theorem PQ.box (H : PQ w Oa Ob Ba Ma Bb z N T sa sb W) (cs : Array Value) (t : TypeId) : DQ w Oa Ob Ba Ma Bb z N T sa sb cs t W.heap.size (W.alloc (.cells cs t)) :=
  ⟨H.next (below_box _ _), Blk.box _ _ _, fun h => Nat.lt_irrefl _ (H.a.lt_ _ h), fun h => Nat.lt_irrefl _ (H.b.lt_ _ h)⟩
end
section
variable {w w' : World} {O O' : Nat → Prop} {B : Nat} {z N : Int} {T : Nat → Int} {s : St}
theorem QAt.word18 (H : QAt w O B z N T s) : w.cell? ⟨B, 18, none⟩ = some (.int .u64 (GatM.gI s.c s.g s.v)) ∧ w.frozen? ⟨B, 18, none⟩ = false := by
  obtain ⟨⟨vr, vf, vs, hist, h, _⟩, _⟩ := H
  exact ⟨h.at_ 18 _ rfl, h.blk.frozen 18⟩
/-- The reference's clock goes on: its gate's word stored anew. -/
theorem QAt.tick (H : QAt w O B z N T s) (n : Int) : QAt (w.setCell ⟨B, 18, none⟩ (.int .u64 (GatM.gI (Ga.later s.c n) s.g s.v))) O B z N T (tickS s n) ∧ Only O w (w.setCell ⟨B, 18, none⟩ (.int .u64 (GatM.gI (Ga.later s.c n) s.g s.v))) := by
  obtain ⟨⟨vr, vf, vs, hist, h, h2⟩, hi, h3⟩ := H
  exact ⟨⟨⟨vr, vf, vs, hist, h.word _, h2⟩, hi.tick n, h3⟩, (Only.refl O w).setCell (.inl h.ob) _⟩
theorem QAt.told (H : QAt w O B z N T s) {j : Nat} (h1 : 1 ≤ j) (h5 : j ≤ 5) : w.cell? ⟨B, 21 + j, none⟩ = some (.int .u64 (s.tl j)) := by
  obtain ⟨⟨vr, vf, vs, hist, h, _⟩, _⟩ := H
  obtain rfl | rfl | rfl | rfl | rfl : j = 1 ∨ j = 2 ∨ j = 3 ∨ j = 4 ∨ j = 5 := by omega
  all_goals exact h.at_ _ _ rfl
end
theorem do_cells {W : World} {g : Nat} {t : TypeId} {xk : Nat} {xn : Int} {xp : K} {xe : Ke} {xl : List R} {xv : Value} (H : Blk W g (doC ⟨xk, xn, xp, xe, xl, xv⟩) t) :
    W.cell? ⟨g, 0, none⟩ = some (.int .u8 (xk : Int)) ∧ W.cell? ⟨g, 1, none⟩ = some (.int .i64 xn) ∧ W.cell? ⟨g, 2, none⟩ = some (.int .u8 (xp.pr : Int)) ∧ W.cell? ⟨g, 3, none⟩ = some (.int .u32 (xp.sr : Int)) ∧ W.cell? ⟨g, 4, none⟩ = some (.int .u32 (xp.ds : Int)) ∧ W.cell? ⟨g, 5, none⟩ = some (.int .u16 (xp.sp : Int)) ∧ W.cell? ⟨g, 6, none⟩ = some (.int .u16 (xp.dp : Int)) ∧ W.cell? ⟨g, 7, none⟩ = some (.int .u8 (xp.fl : Int)) ∧ W.cell? ⟨g, 8, none⟩ = some (.int .u8 (xp.kd : Int)) ∧
    W.cell? ⟨g, 9, none⟩ = some (.int .u32 (xe.a : Int)) ∧ W.cell? ⟨g, 10, none⟩ = some (.int .u32 (xe.b : Int)) ∧ W.cell? ⟨g, 11, none⟩ = some (.int .u16 (xe.p : Int)) ∧ W.cell? ⟨g, 12, none⟩ = some (.int .u16 (xe.q : Int)) ∧ W.cell? ⟨g, 13, none⟩ = some (.int .u8 (xe.r : Int)) ∧ W.cell? ⟨g, 14, none⟩ = some xv :=
  ⟨H.cell 0 _ rfl, H.cell 1 _ rfl, H.cell 2 _ rfl, H.cell 3 _ rfl, H.cell 4 _ rfl, H.cell 5 _ rfl, H.cell 6 _ rfl, H.cell 7 _ rfl, H.cell 8 _ rfl, H.cell 9 _ rfl, H.cell 10 _ rfl, H.cell 11 _ rfl, H.cell 12 _ rfl, H.cell 13 _ rfl, H.cell 14 _ rfl⟩
/-- One step of the law. -/
def stepD (N : Int) (T : Nat → Int) (s : St) (x : Dk) : St :=
  if x.kd % 8 = 0 then tickS s x.n else if x.kd % 8 = 1 then swapS s (few x.l) else if x.kd % 8 = 2 then delS s x.k else if x.kd % 8 = 3 then dropS s x.k else if x.kd % 8 = 4 then countS s x.n else actS N T s x.p
/-- What does answers and leaves. -/
def Done (w : World) (Ba Ma Bb : Nat) (z N : Int) (T : Nat → Int) (s' : St) : Ending → World → Prop := fun e w' => ∃ Oa Ob, e = .returned (.bool true) ∧ PQ w Oa Ob Ba Ma Bb z N T s' s' w'
section
variable {w W : World} {Oa Ob : Nat → Prop} {Ba Ma Bb : Nat} {z N : Int} {T : Nat → Int} {s : St} {xk : Nat} {xn : Int} {xp : K} {xe : Ke} {xl : List R} {Av : Option Addr} {cv : Nat}
set_option maxHeartbeats 4000000 in
theorem does_0 (H : PQ w Oa Ob Ba Ma Bb z N T s s W) (hx : (⟨xk, xn, xp, xe, xl, .slice Av xl.length cv⟩ : Dk).Ok) (hr : Rds w w.heap.size (.slice Av xl.length cv) xl) (hq : (xk : Int) % 8 = 0) :
    Calls Tryz.prog 9 #[ptr Ba, ptr Bb, .agg (doC ⟨xk, xn, xp, xe, xl, .slice Av xl.length cv⟩)] W (Done w Ba Ma Bb z N T (tickS s xn)) := by
  have hk0 : (xk : Int) ≤ 255 := by have := hx.kd; simp only at this; omega
  have HX := Lib.hid hx
  have HR := Lib.hid hr
  have H1 := Lib.hid (H.box (doC ⟨xk, xn, xp, xe, xl, .slice Av xl.length cv⟩) 47)
  have HI := Lib.hid H.a.2.1
  have HTK : Hid (∀ W, Calls Tryz.prog 23 #[.int .u64 (GatM.gI s.c s.g s.v), .int .i64 xn] W fun e w' => e = .returned (.int .u64 (GatM.gI (Ga.later s.c xn) s.g s.v)) ∧ Below W.heap.size W w') := fun W => Ga.refTick_any HI.out.fit W
  clear H hx hr
  go_enter Tryz.func9, Tryz.ntmps9
  go_wp2_with fail
  obtain ⟨gx, hgx⟩ : ∃ g, W.heap.size = g := ⟨_, rfl⟩
  rw [hgx] at H1 ⊢
  go_at_call 17
  refine (tick_any H1.out.pq.a H1.out.pq.env xn HX.out.n).mono ?_
  rintro e w4 ⟨rfl, hp, ho⟩
  have H2 : Hid (DQ w Oa Ob Ba Ma Bb z N T (tickS s xn) s (doC ⟨xk, xn, xp, xe, xl, .slice Av xl.length cv⟩) 47 gx w4) := H1.out.left hp ho fun _ h => .inl h
  clear hp ho H1 hgx
  go_wp2_with fail
  refine region_e (S := fun w' => Hid (DQ w Oa Ob Ba Ma Bb z N T (tickS s xn) s (doC ⟨xk, xn, xp, xe, xl, .slice Av xl.length cv⟩) 47 gx w')) 10 (by kernel_rfl) (Lib.hid (H2.out.next (Below.refl _ _).drew)) (fun hH => ?_)
  refine anyE_take (i := 0) (oi := ⟨some 20, _, _, _, _, _⟩) (v := ?v1) rfl (by kernel_rfl) (by kernel_rfl) (by kernel_rfl) (by kernel_rfl) (fun _ _ _ h => h) (Or.inl ⟨rfl, ?c1⟩) hH ?r1
  case c1 => (intro w' _; go_simp; (try with_reducible rfl))
  try simp only [Act.put, List.setIfInBounds_toArray, List.set_cons_zero, List.set_cons_succ]
  refine anyE_take (i := 1) (oi := ⟨some 21, _, _, _, _, _⟩) (v := ?v2) rfl (by kernel_rfl) (by kernel_rfl) (by kernel_rfl) (by kernel_rfl) (fun _ _ _ h => h) (Or.inl ⟨rfl, ?c2⟩) hH ?r2
  case c2 => (intro w' _; go_simp; (try with_reducible rfl))
  try simp only [Act.put, List.setIfInBounds_toArray, List.set_cons_zero, List.set_cons_succ]
  refine anyE_take (i := 2) (oi := ⟨some 22, _, _, _, _, _⟩) (v := ?v3) rfl (by kernel_rfl) (by kernel_rfl) (by kernel_rfl) (by kernel_rfl) (fun _ _ _ h => h) (Or.inl ⟨rfl, ?c3⟩) hH ?r3
  case c3 => (intro w' _; go_simp; (try with_reducible rfl))
  try simp only [Act.put, List.setIfInBounds_toArray, List.set_cons_zero, List.set_cons_succ]
  refine anyE_take (i := 3) (oi := ⟨some 23, _, _, _, _, _⟩) (v := ?v4) rfl (by kernel_rfl) (by kernel_rfl) (by kernel_rfl) (by kernel_rfl) (fun _ _ _ h => h) (Or.inl ⟨rfl, ?c4⟩) hH ?r4
  case c4 => (intro w' _; go_simp; (try with_reducible rfl))
  try simp only [Act.put, List.setIfInBounds_toArray, List.set_cons_zero, List.set_cons_succ]
  refine anyE_take (i := 4) (oi := ⟨some 24, _, _, _, _, _⟩) (v := ?v5) rfl (by kernel_rfl) (by kernel_rfl) (by kernel_rfl) (by kernel_rfl) (fun _ _ _ h => h) (Or.inl ⟨rfl, ?c5⟩) hH ?r5
  case c5 => (intro w' hS; obtain ⟨y18, f18⟩ := hS.out.pq.b.word18; go_simp; (try with_reducible rfl))
  try simp only [Act.put, List.setIfInBounds_toArray, List.set_cons_zero, List.set_cons_succ]
  refine anyE_take (i := 5) (oi := ⟨some 25, _, _, _, _, _⟩) (v := ?v6) rfl (by kernel_rfl) (by kernel_rfl) (by kernel_rfl) (by kernel_rfl) (fun _ _ _ h => h) (Or.inl ⟨rfl, ?c6⟩) hH ?r6
  case c6 => (intro w' _; go_simp; (try with_reducible rfl))
  try simp only [Act.put, List.setIfInBounds_toArray, List.set_cons_zero, List.set_cons_succ]
  refine anyE_take (i := 6) (oi := ⟨some 26, _, _, _, _, _⟩) (v := ?v7) rfl (by kernel_rfl) (by kernel_rfl) (by kernel_rfl) (by kernel_rfl) (fun _ _ _ h => h) (Or.inl ⟨rfl, ?c7⟩) hH ?r7
  case c7 => (intro w' hS; obtain ⟨q0, q1, q2, q3, q4, q5, q6, q7, q8, q9, q10, q11, q12, q13, q14⟩ := do_cells hS.out.xb; go_simp; (try with_reducible rfl))
  try simp only [Act.put, List.setIfInBounds_toArray, List.set_cons_zero, List.set_cons_succ]
  refine anyE_ready (rs := [7]) (by kernel_rfl) (by simp) (AllE.cons rfl (fun K hK => ?_) (AllE.nil))
  go_simp
  go_at_call 23
  refine (HTK.out _).mono ?_
  rintro e w5 ⟨rfl, hbp⟩
  refine hK.out _ _ (Lib.hid (hH.out.next hbp)) (fun hH => ?_)
  clear hK K
  clear hbp
  try simp only [Act.put, List.setIfInBounds_toArray, List.set_cons_zero, List.set_cons_succ]
  refine anyE_ready (rs := [8]) (by kernel_rfl) (by simp) (AllE.cons rfl (fun K hK => ?_) (AllE.nil))
  go_simp
  refine hK.out _ _ (hH) (fun hH => ?_)
  clear hK K
  try simp only [Act.put, List.setIfInBounds_toArray, List.set_cons_zero, List.set_cons_succ]
  refine anyE_take (i := 9) (oi := ⟨some 29, _, _, _, _, _⟩) (v := ?v8) rfl (by kernel_rfl) (by kernel_rfl) (by kernel_rfl) (by kernel_rfl) (fun _ _ _ h => h) (Or.inl ⟨rfl, ?c8⟩) hH ?r8
  case c8 => (intro w' _; go_simp; (try with_reducible rfl))
  try simp only [Act.put, List.setIfInBounds_toArray, List.set_cons_zero, List.set_cons_succ]
  refine anyE_ready (rs := [10]) (by kernel_rfl) (by simp) (AllE.end_ rfl (fun K hK => ?_))
  obtain ⟨y18, f18⟩ := hH.out.pq.b.word18
  go_simp
  clear y18 f18
  refine hK.out _ _ ?_
  clear hK K
  try simp only [Act.put, List.setIfInBounds_toArray, List.set_cons_zero, List.set_cons_succ]
  refine anyE_done (by kernel_rfl) ?_ _
  obtain ⟨hp, ho⟩ := hH.out.pq.b.tick xn
  have H3 := Lib.hid (hH.out.right hp ho fun _ h => .inl h)
  clear hp ho hH H2
  go_wp2_with fail
  go_ret
  exact ⟨_, _, rfl, H3.out.pq⟩
set_option maxHeartbeats 4000000 in
theorem does_1 (H : PQ w Oa Ob Ba Ma Bb z N T s s W) (hx : (⟨xk, xn, xp, xe, xl, .slice Av xl.length cv⟩ : Dk).Ok) (hr : Rds w w.heap.size (.slice Av xl.length cv) xl) (hq : (xk : Int) % 8 = 1) :
    Calls Tryz.prog 9 #[ptr Ba, ptr Bb, .agg (doC ⟨xk, xn, xp, xe, xl, .slice Av xl.length cv⟩)] W (Done w Ba Ma Bb z N T (swapS s (few xl))) := by
  have hk0 : (xk : Int) ≤ 255 := by have := hx.kd; simp only at this; omega
  have HX := Lib.hid hx
  have HR := Lib.hid hr
  have H1 := Lib.hid (H.box (doC ⟨xk, xn, xp, xe, xl, .slice Av xl.length cv⟩) 47)
  have HI := Lib.hid H.a.2.1
  have HFE := Lib.hid (few_len xl)
  have HNO : Hid (∀ O : Nat → Prop, (∀ j, O j → w.heap.size ≤ j) → 0 < (few xl).length → ∀ a n' c', Value.slice Av (few xl).length cv = .slice (some a) n' c' → ¬ O a.block) := fun O hO hp a n' c' e ho => by
    have h1 := hO _ ho
    injection e with e _ _
    have h2 := HR.out.lt_of (by have := HFE.out.2; omega) a xl.length cv (by rw [e])
    omega
  have HRW : Hid (∀ W', Below w.heap.size w W' → Rds W' W'.heap.size (.slice Av xl.length cv) xl) := fun W' h => Rds.only HR.out (Only.of_below h : Only (fun _ => False) w W') (fun _ _ _ _ _ e => e)
  clear H hx hr
  go_enter Tryz.func9, Tryz.ntmps9
  go_wp2_with fail
  obtain ⟨gx, hgx⟩ : ∃ g, W.heap.size = g := ⟨_, rfl⟩
  obtain ⟨w3, hw3⟩ : ∃ v, (W.alloc (.cells (doC ⟨xk, xn, xp, xe, xl, .slice Av xl.length cv⟩) 47)) = v := ⟨_, rfl⟩
  rw [hgx] at H1 ⊢
  rw [hw3] at H1 ⊢
  clear hgx hw3
  go_at_call 5
  refine (few_any Av xl.length cv xl _ rfl (HRW.out _ H1.out.pq.bel)).mono ?_
  rintro e w4 ⟨rfl, rfl⟩
  go_wp2_with fail
  go_at_call 24
  refine (swap_p H1.out.pq.a H1.out.pq.env Av (few xl).length cv (few xl) rfl (few_rds (HRW.out _ H1.out.pq.bel)) (few_ok HX.out.l) (by have := HFE.out.1; omega) (HNO.out _ H1.out.pq.na)).mono ?_
  rintro e w4 ⟨O2, rfl, hp, ho, hO⟩
  have H2 := Lib.hid (H1.out.left hp ho hO)
  clear hp ho hO H1
  obtain ⟨q0, q1, q2, q3, q4, q5, q6, q7, q8, q9, q10, q11, q12, q13, q14⟩ := do_cells H2.out.xb
  go_wp2_with fail
  clear q0 q1 q2 q3 q4 q5 q6 q7 q8 q9 q10 q11 q12 q13 q14
  go_at_call 5
  refine (few_any Av xl.length cv xl _ rfl (HRW.out _ H2.out.pq.bel)).mono ?_
  rintro e w5 ⟨rfl, rfl⟩
  go_wp2_with fail
  go_at_call 25
  refine (refSwap_q H2.out.pq.b H2.out.pq.env Av (few xl).length cv (few xl) rfl (few_rds (HRW.out _ H2.out.pq.bel)) (few_ok HX.out.l) (HNO.out _ H2.out.pq.nb)).mono ?_
  rintro e w5 ⟨O3, rfl, hp, ho, hO⟩
  have H3 := Lib.hid (H2.out.right hp ho hO)
  clear hp ho hO H2
  generalize (swapV s (few xl)).1 = va
  generalize (swapV s (few xl)).2 = vb
  go_wp2_with fail
  go_ret
  exact ⟨_, _, rfl, H3.out.pq⟩
set_option maxHeartbeats 4000000 in
theorem does_2 (H : PQ w Oa Ob Ba Ma Bb z N T s s W) (hx : (⟨xk, xn, xp, xe, xl, .slice Av xl.length cv⟩ : Dk).Ok) (hr : Rds w w.heap.size (.slice Av xl.length cv) xl) (hq : (xk : Int) % 8 = 2) :
    Calls Tryz.prog 9 #[ptr Ba, ptr Bb, .agg (doC ⟨xk, xn, xp, xe, xl, .slice Av xl.length cv⟩)] W (Done w Ba Ma Bb z N T (delS s xe)) := by
  have hk0 : (xk : Int) ≤ 255 := by have := hx.kd; simp only at this; omega
  have HX := Lib.hid hx
  have HR := Lib.hid hr
  have H1 := Lib.hid (H.box (doC ⟨xk, xn, xp, xe, xl, .slice Av xl.length cv⟩) 47)
  have HI := Lib.hid H.a.2.1
  clear H hx hr
  go_enter Tryz.func9, Tryz.ntmps9
  go_wp2_with fail
  obtain ⟨gx, hgx⟩ : ∃ g, W.heap.size = g := ⟨_, rfl⟩
  obtain ⟨w3, hw3⟩ : ∃ v, (W.alloc (.cells (doC ⟨xk, xn, xp, xe, xl, .slice Av xl.length cv⟩) 47)) = v := ⟨_, rfl⟩
  rw [hgx] at H1 ⊢
  rw [hw3] at H1 ⊢
  clear hgx hw3
  replace H1 := Lib.hid (H1.out.next (Below.refl _ _).drew)
  refine wp_region_held_drew (S := fun w' => Hid (Blk w' gx (doC ⟨xk, xn, xp, xe, xl, .slice Av xl.length cv⟩) 47)) (by kernel_rfl) (Lib.hid H1.out.xb) (fun hH => ?_)
  refine wpAnyH_take (i := 0) (oi := ⟨some 58, _, _, _, _, _⟩) (v := ?v1) rfl (by kernel_rfl) (by kernel_rfl) (by kernel_rfl) (fun _ _ _ h => h) (Or.inl ⟨rfl, ?c1⟩) hH ?r1
  case c1 => (intro w' _; go_simp; (try with_reducible rfl))
  try simp only [Act.put, List.setIfInBounds_toArray, List.set_cons_zero, List.set_cons_succ]
  refine wpAnyH_take (i := 1) (oi := ⟨some 59, _, _, _, _, _⟩) (v := ?v2) rfl (by kernel_rfl) (by kernel_rfl) (by kernel_rfl) (fun _ _ _ h => h) (Or.inl ⟨rfl, ?c2⟩) hH ?r2
  case c2 => (intro w' _; go_simp; (try with_reducible rfl))
  try simp only [Act.put, List.setIfInBounds_toArray, List.set_cons_zero, List.set_cons_succ]
  refine wpAnyH_take (i := 2) (oi := ⟨some 60, _, _, _, _, _⟩) (v := ?v3) rfl (by kernel_rfl) (by kernel_rfl) (by kernel_rfl) (fun _ _ _ h => h) (Or.inl ⟨rfl, ?c3⟩) hH ?r3
  case c3 => (intro w' hS; obtain ⟨q0, q1, q2, q3, q4, q5, q6, q7, q8, q9, q10, q11, q12, q13, q14⟩ := do_cells hS.out; go_simp; (try with_reducible rfl))
  try simp only [Act.put, List.setIfInBounds_toArray, List.set_cons_zero, List.set_cons_succ]
  refine wpAnyH_take (i := 4) (oi := ⟨some 62, _, _, _, _, _⟩) (v := ?v4) rfl (by kernel_rfl) (by kernel_rfl) (by kernel_rfl) (fun _ _ _ h => h) (Or.inl ⟨rfl, ?c4⟩) hH ?r4
  case c4 => (intro w' _; go_simp; (try with_reducible rfl))
  try simp only [Act.put, List.setIfInBounds_toArray, List.set_cons_zero, List.set_cons_succ]
  refine wpAnyH_take (i := 5) (oi := ⟨some 63, _, _, _, _, _⟩) (v := ?v5) rfl (by kernel_rfl) (by kernel_rfl) (by kernel_rfl) (fun _ _ _ h => h) (Or.inl ⟨rfl, ?c5⟩) hH ?r5
  case c5 => (intro w' _; go_simp; (try with_reducible rfl))
  try simp only [Act.put, List.setIfInBounds_toArray, List.set_cons_zero, List.set_cons_succ]
  refine wpAnyH_take (i := 6) (oi := ⟨some 64, _, _, _, _, _⟩) (v := ?v6) rfl (by kernel_rfl) (by kernel_rfl) (by kernel_rfl) (fun _ _ _ h => h) (Or.inl ⟨rfl, ?c6⟩) hH ?r6
  case c6 => (intro w' hS; obtain ⟨q0, q1, q2, q3, q4, q5, q6, q7, q8, q9, q10, q11, q12, q13, q14⟩ := do_cells hS.out; go_simp; (try with_reducible rfl))
  try simp only [Act.put, List.setIfInBounds_toArray, List.set_cons_zero, List.set_cons_succ]
  refine wpAnyH_ready (rs := [3]) (by kernel_rfl) (by simp) (AllReadyH.cons rfl (fun K hK => ?_) (AllReadyH.nil))
  go_simp
  go_at_call 26
  refine (delete_p H1.out.pq.a H1.out.pq.env xe).mono ?_
  rintro e w4 ⟨rfl, hp, ho⟩
  have H2 := Lib.hid (H1.out.left hp ho fun _ h => .inl h)
  refine hK.out _ _ (Lib.hid (hH.out.only ho H1.out.na)) (fun hH => ?_)
  clear hK K
  clear hp ho H1
  try simp only [Act.put, List.setIfInBounds_toArray, List.set_cons_zero, List.set_cons_succ]
  refine wpAnyH_ready (rs := [7]) (by kernel_rfl) (by simp) (AllReadyH.cons rfl (fun K hK => ?_) (AllReadyH.nil))
  go_simp
  go_at_call 27
  refine (refDelete_q H2.out.pq.b H2.out.pq.env xe).mono ?_
  rintro e w5 ⟨O3, rfl, hp, ho, hO⟩
  have H3 := Lib.hid (H2.out.right hp ho hO)
  refine hK.out _ _ (Lib.hid (hH.out.only ho H2.out.nb)) (fun hH => ?_)
  clear hK K
  clear hp ho hO H2
  try simp only [Act.put, List.setIfInBounds_toArray, List.set_cons_zero, List.set_cons_succ]
  refine wpAnyH_take (i := 8) (oi := ⟨some 66, _, _, _, _, _⟩) (v := ?v7) rfl (by kernel_rfl) (by kernel_rfl) (by kernel_rfl) (fun _ _ _ h => h) (Or.inl ⟨rfl, ?c7⟩) hH ?r7
  case c7 => (intro w' _; go_simp; (try with_reducible rfl))
  try simp only [Act.put, List.setIfInBounds_toArray, List.set_cons_zero, List.set_cons_succ]
  refine wpAnyH_take (i := 9) (oi := ⟨some 6, _, _, _, _, _⟩) (v := ?v8) rfl (by kernel_rfl) (by kernel_rfl) (by kernel_rfl) (fun _ _ _ h => h) (Or.inl ⟨rfl, ?c8⟩) hH ?r8
  case c8 => (intro w' _; go_simp; (try with_reducible rfl))
  try simp only [Act.put, List.setIfInBounds_toArray, List.set_cons_zero, List.set_cons_succ]
  refine wpAnyH_done (by kernel_rfl) ?_ _
  clear hH
  go_wp2_with fail
  go_ret
  exact ⟨_, _, rfl, H3.out.pq⟩
set_option maxHeartbeats 4000000 in
theorem does_3 (H : PQ w Oa Ob Ba Ma Bb z N T s s W) (hx : (⟨xk, xn, xp, xe, xl, .slice Av xl.length cv⟩ : Dk).Ok) (hr : Rds w w.heap.size (.slice Av xl.length cv) xl) (hq : (xk : Int) % 8 = 3) :
    Calls Tryz.prog 9 #[ptr Ba, ptr Bb, .agg (doC ⟨xk, xn, xp, xe, xl, .slice Av xl.length cv⟩)] W (Done w Ba Ma Bb z N T (dropS s xe)) := by
  have hk0 : (xk : Int) ≤ 255 := by have := hx.kd; simp only at this; omega
  have HX := Lib.hid hx
  have HR := Lib.hid hr
  have H1 := Lib.hid (H.box (doC ⟨xk, xn, xp, xe, xl, .slice Av xl.length cv⟩) 47)
  have HI := Lib.hid H.a.2.1
  clear H hx hr
  go_enter Tryz.func9, Tryz.ntmps9
  go_wp2_with fail
  obtain ⟨gx, hgx⟩ : ∃ g, W.heap.size = g := ⟨_, rfl⟩
  obtain ⟨w3, hw3⟩ : ∃ v, (W.alloc (.cells (doC ⟨xk, xn, xp, xe, xl, .slice Av xl.length cv⟩) 47)) = v := ⟨_, rfl⟩
  rw [hgx] at H1 ⊢
  rw [hw3] at H1 ⊢
  clear hgx hw3
  replace H1 := Lib.hid (H1.out.next (Below.refl _ _).drew)
  refine wp_region_held_drew (S := fun w' => Hid (Blk w' gx (doC ⟨xk, xn, xp, xe, xl, .slice Av xl.length cv⟩) 47)) (by kernel_rfl) (Lib.hid H1.out.xb) (fun hH => ?_)
  refine wpAnyH_take (i := 0) (oi := ⟨some 69, _, _, _, _, _⟩) (v := ?v1) rfl (by kernel_rfl) (by kernel_rfl) (by kernel_rfl) (fun _ _ _ h => h) (Or.inl ⟨rfl, ?c1⟩) hH ?r1
  case c1 => (intro w' _; go_simp; (try with_reducible rfl))
  try simp only [Act.put, List.setIfInBounds_toArray, List.set_cons_zero, List.set_cons_succ]
  refine wpAnyH_take (i := 1) (oi := ⟨some 70, _, _, _, _, _⟩) (v := ?v2) rfl (by kernel_rfl) (by kernel_rfl) (by kernel_rfl) (fun _ _ _ h => h) (Or.inl ⟨rfl, ?c2⟩) hH ?r2
  case c2 => (intro w' _; go_simp; (try with_reducible rfl))
  try simp only [Act.put, List.setIfInBounds_toArray, List.set_cons_zero, List.set_cons_succ]
  refine wpAnyH_take (i := 2) (oi := ⟨some 71, _, _, _, _, _⟩) (v := ?v3) rfl (by kernel_rfl) (by kernel_rfl) (by kernel_rfl) (fun _ _ _ h => h) (Or.inl ⟨rfl, ?c3⟩) hH ?r3
  case c3 => (intro w' hS; obtain ⟨q0, q1, q2, q3, q4, q5, q6, q7, q8, q9, q10, q11, q12, q13, q14⟩ := do_cells hS.out; go_simp; (try with_reducible rfl))
  try simp only [Act.put, List.setIfInBounds_toArray, List.set_cons_zero, List.set_cons_succ]
  refine wpAnyH_take (i := 4) (oi := ⟨some 73, _, _, _, _, _⟩) (v := ?v4) rfl (by kernel_rfl) (by kernel_rfl) (by kernel_rfl) (fun _ _ _ h => h) (Or.inl ⟨rfl, ?c4⟩) hH ?r4
  case c4 => (intro w' _; go_simp; (try with_reducible rfl))
  try simp only [Act.put, List.setIfInBounds_toArray, List.set_cons_zero, List.set_cons_succ]
  refine wpAnyH_take (i := 5) (oi := ⟨some 74, _, _, _, _, _⟩) (v := ?v5) rfl (by kernel_rfl) (by kernel_rfl) (by kernel_rfl) (fun _ _ _ h => h) (Or.inl ⟨rfl, ?c5⟩) hH ?r5
  case c5 => (intro w' _; go_simp; (try with_reducible rfl))
  try simp only [Act.put, List.setIfInBounds_toArray, List.set_cons_zero, List.set_cons_succ]
  refine wpAnyH_take (i := 6) (oi := ⟨some 75, _, _, _, _, _⟩) (v := ?v6) rfl (by kernel_rfl) (by kernel_rfl) (by kernel_rfl) (fun _ _ _ h => h) (Or.inl ⟨rfl, ?c6⟩) hH ?r6
  case c6 => (intro w' hS; obtain ⟨q0, q1, q2, q3, q4, q5, q6, q7, q8, q9, q10, q11, q12, q13, q14⟩ := do_cells hS.out; go_simp; (try with_reducible rfl))
  try simp only [Act.put, List.setIfInBounds_toArray, List.set_cons_zero, List.set_cons_succ]
  refine wpAnyH_ready (rs := [3]) (by kernel_rfl) (by simp) (AllReadyH.cons rfl (fun K hK => ?_) (AllReadyH.nil))
  go_simp
  go_at_call 28
  refine (drop_p H1.out.pq.a H1.out.pq.env xe).mono ?_
  rintro e w4 ⟨rfl, hp, ho⟩
  have H2 := Lib.hid (H1.out.left hp ho fun _ h => .inl h)
  refine hK.out _ _ (Lib.hid (hH.out.only ho H1.out.na)) (fun hH => ?_)
  clear hK K
  clear hp ho H1
  try simp only [Act.put, List.setIfInBounds_toArray, List.set_cons_zero, List.set_cons_succ]
  refine wpAnyH_ready (rs := [7]) (by kernel_rfl) (by simp) (AllReadyH.cons rfl (fun K hK => ?_) (AllReadyH.nil))
  go_simp
  go_at_call 29
  refine (refDrop_q H2.out.pq.b H2.out.pq.env xe).mono ?_
  rintro e w5 ⟨O3, rfl, hp, ho, hO⟩
  have H3 := Lib.hid (H2.out.right hp ho hO)
  refine hK.out _ _ (Lib.hid (hH.out.only ho H2.out.nb)) (fun hH => ?_)
  clear hK K
  clear hp ho hO H2
  try simp only [Act.put, List.setIfInBounds_toArray, List.set_cons_zero, List.set_cons_succ]
  refine wpAnyH_take (i := 8) (oi := ⟨some 77, _, _, _, _, _⟩) (v := ?v7) rfl (by kernel_rfl) (by kernel_rfl) (by kernel_rfl) (fun _ _ _ h => h) (Or.inl ⟨rfl, ?c7⟩) hH ?r7
  case c7 => (intro w' _; go_simp; (try with_reducible rfl))
  try simp only [Act.put, List.setIfInBounds_toArray, List.set_cons_zero, List.set_cons_succ]
  refine wpAnyH_take (i := 9) (oi := ⟨some 6, _, _, _, _, _⟩) (v := ?v8) rfl (by kernel_rfl) (by kernel_rfl) (by kernel_rfl) (fun _ _ _ h => h) (Or.inl ⟨rfl, ?c8⟩) hH ?r8
  case c8 => (intro w' _; go_simp; (try with_reducible rfl))
  try simp only [Act.put, List.setIfInBounds_toArray, List.set_cons_zero, List.set_cons_succ]
  refine wpAnyH_done (by kernel_rfl) ?_ _
  clear hH
  go_wp2_with fail
  go_ret
  exact ⟨_, _, rfl, H3.out.pq⟩
set_option maxHeartbeats 4000000 in
theorem does_5 (H : PQ w Oa Ob Ba Ma Bb z N T s s W) (hx : (⟨xk, xn, xp, xe, xl, .slice Av xl.length cv⟩ : Dk).Ok) (hr : Rds w w.heap.size (.slice Av xl.length cv) xl) (hq : 5 ≤ (xk : Int) % 8) :
    Calls Tryz.prog 9 #[ptr Ba, ptr Bb, .agg (doC ⟨xk, xn, xp, xe, xl, .slice Av xl.length cv⟩)] W (Done w Ba Ma Bb z N T (actS N T s xp)) := by
  have hk0 : (xk : Int) ≤ 255 := by have := hx.kd; simp only at this; omega
  have HX := Lib.hid hx
  have HR := Lib.hid hr
  have H1 := Lib.hid (H.box (doC ⟨xk, xn, xp, xe, xl, .slice Av xl.length cv⟩) 47)
  have HI := Lib.hid H.a.2.1
  clear H hx hr
  go_enter Tryz.func9, Tryz.ntmps9
  go_wp2_with fail
  obtain ⟨gx, hgx⟩ : ∃ g, W.heap.size = g := ⟨_, rfl⟩
  obtain ⟨w3, hw3⟩ : ∃ v, (W.alloc (.cells (doC ⟨xk, xn, xp, xe, xl, .slice Av xl.length cv⟩) 47)) = v := ⟨_, rfl⟩
  rw [hgx] at H1 ⊢
  rw [hw3] at H1 ⊢
  clear hgx hw3
  replace H1 := Lib.hid (H1.out.next (Below.refl _ _).drew)
  refine wp_region_held_drew (S := fun w' => Hid (Blk w' gx (doC ⟨xk, xn, xp, xe, xl, .slice Av xl.length cv⟩) 47)) (by kernel_rfl) (Lib.hid H1.out.xb) (fun hH => ?_)
  refine wpAnyH_take (i := 0) (oi := ⟨some 110, _, _, _, _, _⟩) (v := ?v1) rfl (by kernel_rfl) (by kernel_rfl) (by kernel_rfl) (fun _ _ _ h => h) (Or.inl ⟨rfl, ?c1⟩) hH ?r1
  case c1 => (intro w' _; go_simp; (try with_reducible rfl))
  try simp only [Act.put, List.setIfInBounds_toArray, List.set_cons_zero, List.set_cons_succ]
  refine wpAnyH_take (i := 1) (oi := ⟨some 111, _, _, _, _, _⟩) (v := ?v2) rfl (by kernel_rfl) (by kernel_rfl) (by kernel_rfl) (fun _ _ _ h => h) (Or.inl ⟨rfl, ?c2⟩) hH ?r2
  case c2 => (intro w' _; go_simp; (try with_reducible rfl))
  try simp only [Act.put, List.setIfInBounds_toArray, List.set_cons_zero, List.set_cons_succ]
  refine wpAnyH_take (i := 2) (oi := ⟨some 112, _, _, _, _, _⟩) (v := ?v3) rfl (by kernel_rfl) (by kernel_rfl) (by kernel_rfl) (fun _ _ _ h => h) (Or.inl ⟨rfl, ?c3⟩) hH ?r3
  case c3 => (intro w' hS; obtain ⟨q0, q1, q2, q3, q4, q5, q6, q7, q8, q9, q10, q11, q12, q13, q14⟩ := do_cells hS.out; go_simp; (try with_reducible rfl))
  try simp only [Act.put, List.setIfInBounds_toArray, List.set_cons_zero, List.set_cons_succ]
  refine wpAnyH_take (i := 4) (oi := ⟨some 114, _, _, _, _, _⟩) (v := ?v4) rfl (by kernel_rfl) (by kernel_rfl) (by kernel_rfl) (fun _ _ _ h => h) (Or.inl ⟨rfl, ?c4⟩) hH ?r4
  case c4 => (intro w' _; go_simp; (try with_reducible rfl))
  try simp only [Act.put, List.setIfInBounds_toArray, List.set_cons_zero, List.set_cons_succ]
  refine wpAnyH_take (i := 5) (oi := ⟨some 115, _, _, _, _, _⟩) (v := ?v5) rfl (by kernel_rfl) (by kernel_rfl) (by kernel_rfl) (fun _ _ _ h => h) (Or.inl ⟨rfl, ?c5⟩) hH ?r5
  case c5 => (intro w' _; go_simp; (try with_reducible rfl))
  try simp only [Act.put, List.setIfInBounds_toArray, List.set_cons_zero, List.set_cons_succ]
  refine wpAnyH_take (i := 6) (oi := ⟨some 116, _, _, _, _, _⟩) (v := ?v6) rfl (by kernel_rfl) (by kernel_rfl) (by kernel_rfl) (fun _ _ _ h => h) (Or.inl ⟨rfl, ?c6⟩) hH ?r6
  case c6 => (intro w' hS; obtain ⟨q0, q1, q2, q3, q4, q5, q6, q7, q8, q9, q10, q11, q12, q13, q14⟩ := do_cells hS.out; go_simp; (try with_reducible rfl))
  try simp only [Act.put, List.setIfInBounds_toArray, List.set_cons_zero, List.set_cons_succ]
  refine wpAnyH_ready (rs := [3]) (by kernel_rfl) (by simp) (AllReadyH.cons rfl (fun K hK => ?_) (AllReadyH.nil))
  go_simp
  go_at_call 16
  refine (act_p H1.out.pq.a H1.out.pq.env xp HX.out.p).mono ?_
  rintro e w4 ⟨rfl, hp, ho⟩
  have H2 := Lib.hid (H1.out.left hp ho fun _ h => .inl h)
  refine hK.out _ _ (Lib.hid (hH.out.only ho H1.out.na)) (fun hH => ?_)
  clear hK K
  clear hp ho H1
  try simp only [Act.put, List.setIfInBounds_toArray, List.set_cons_zero, List.set_cons_succ]
  refine wpAnyH_ready (rs := [7]) (by kernel_rfl) (by simp) (AllReadyH.cons rfl (fun K hK => ?_) (AllReadyH.nil))
  go_simp
  go_at_call 31
  refine (refAct_q H2.out.pq.b H2.out.pq.env xp HX.out.p).mono ?_
  rintro e w5 ⟨O3, rfl, hp, ho, hO⟩
  have H3 := Lib.hid (H2.out.right hp ho hO)
  refine hK.out _ _ (Lib.hid (hH.out.only ho H2.out.nb)) (fun hH => ?_)
  clear hK K
  clear hp ho hO H2
  try simp only [Act.put, List.setIfInBounds_toArray, List.set_cons_zero, List.set_cons_succ]
  refine wpAnyH_take (i := 8) (oi := ⟨some 118, _, _, _, _, _⟩) (v := ?v7) rfl (by kernel_rfl) (by kernel_rfl) (by kernel_rfl) (fun _ _ _ h => h) (Or.inl ⟨rfl, ?c7⟩) hH ?r7
  case c7 => (intro w' _; go_simp; (try with_reducible rfl))
  try simp only [Act.put, List.setIfInBounds_toArray, List.set_cons_zero, List.set_cons_succ]
  refine wpAnyH_take (i := 9) (oi := ⟨some 6, _, _, _, _, _⟩) (v := ?v8) rfl (by kernel_rfl) (by kernel_rfl) (by kernel_rfl) (fun _ _ _ h => h) (Or.inl ⟨rfl, ?c8⟩) hH ?r8
  case c8 => (intro w' _; go_simp; (try with_reducible rfl))
  try simp only [Act.put, List.setIfInBounds_toArray, List.set_cons_zero, List.set_cons_succ]
  refine wpAnyH_done (by kernel_rfl) ?_ _
  clear hH
  go_wp2_with fail
  go_ret
  exact ⟨_, _, rfl, H3.out.pq⟩
set_option maxHeartbeats 4000000 in
theorem does_4 (H : PQ w Oa Ob Ba Ma Bb z N T s s W) (hx : (⟨xk, xn, xp, xe, xl, .slice Av xl.length cv⟩ : Dk).Ok) (hr : Rds w w.heap.size (.slice Av xl.length cv) xl) (hq : (xk : Int) % 8 = 4) :
    Calls Tryz.prog 9 #[ptr Ba, ptr Bb, .agg (doC ⟨xk, xn, xp, xe, xl, .slice Av xl.length cv⟩)] W (Done w Ba Ma Bb z N T (countS s xn)) := by
  have hk0 : (xk : Int) ≤ 255 := by have := hx.kd; simp only at this; omega
  have HX := Lib.hid hx
  have HR := Lib.hid hr
  have H1 := Lib.hid (H.box (doC ⟨xk, xn, xp, xe, xl, .slice Av xl.length cv⟩) 47)
  have HI := Lib.hid H.a.2.1
  clear H hx hr
  go_enter Tryz.func9, Tryz.ntmps9
  go_wp2_with fail
  obtain ⟨gx, hgx⟩ : ∃ g, W.heap.size = g := ⟨_, rfl⟩
  obtain ⟨w3, hw3⟩ : ∃ v, (W.alloc (.cells (doC ⟨xk, xn, xp, xe, xl, .slice Av xl.length cv⟩) 47)) = v := ⟨_, rfl⟩
  rw [hgx] at H1 ⊢
  rw [hw3] at H1 ⊢
  clear hgx hw3
  go_at_call 18
  refine (count_p H1.out.pq.a xn).mono ?_
  rintro e w4 ⟨rfl, hp, ho⟩
  have H2 := Lib.hid (H1.out.left hp ho fun _ h => .inl h)
  clear hp ho H1
  obtain ⟨q0, q1, q2, q3, q4, q5, q6, q7, q8, q9, q10, q11, q12, q13, q14⟩ := do_cells H2.out.xb
  go_wp2_with fail
  clear q0 q1 q2 q3 q4 q5 q6 q7 q8 q9 q10 q11 q12 q13 q14
  go_at_call 30
  refine (refCount_q H2.out.pq.b xn HX.out.n).mono ?_
  rintro e w5 ⟨rfl, hp, ho⟩
  have H3 := Lib.hid (H2.out.right hp ho fun _ h => .inl h)
  clear hp ho H2
  go_wp2_with fail
  by_cases c1 : xn < 1
  · have d1 : decide (xn < 1) = true := decide_eq_true c1
    refine wp_region_held_drew (S := fun w' => Hid (DQ w Oa Ob Ba Ma Bb z N T (countS s xn) (countS s xn) (doC ⟨xk, xn, xp, xe, xl, .slice Av xl.length cv⟩) 47 gx w')) (by kernel_rfl) (Lib.hid (H3.out.next (Below.refl _ _).drew)) (fun hH => ?_)
    refine wpAnyH_take (i := 0) (oi := ⟨some 88, _, _, _, _, _⟩) (v := ?v1) rfl (by kernel_rfl) (by kernel_rfl) (by kernel_rfl) (fun _ _ _ h => h) (Or.inl ⟨rfl, ?c1⟩) hH ?r1
    case c1 => (intro w' _; go_simp; (try with_reducible rfl))
    try simp only [Act.put, List.setIfInBounds_toArray, List.set_cons_zero, List.set_cons_succ]
    refine wpAnyH_take (i := 1) (oi := ⟨some 89, _, _, _, _, _⟩) (v := ?v2) rfl (by kernel_rfl) (by kernel_rfl) (by kernel_rfl) (fun _ _ _ h => h) (Or.inl ⟨rfl, ?c2⟩) hH ?r2
    case c2 => (intro w' hS; obtain ⟨q0, q1, q2, q3, q4, q5, q6, q7, q8, q9, q10, q11, q12, q13, q14⟩ := do_cells hS.out.xb; go_simp; (try with_reducible rfl))
    try simp only [Act.put, List.setIfInBounds_toArray, List.set_cons_zero, List.set_cons_succ]
    refine wpAnyH_take (i := 2) (oi := ⟨some 90, _, _, _, _, _⟩) (v := ?v3) rfl (by kernel_rfl) (by kernel_rfl) (by kernel_rfl) (fun _ _ _ h => h) (Or.inl ⟨rfl, ?c3⟩) hH ?r3
    case c3 => (intro w' _; go_simp; (try with_reducible rfl))
    try simp only [Act.put, List.setIfInBounds_toArray, List.set_cons_zero, List.set_cons_succ]
    refine wpAnyH_take (i := 3) (oi := ⟨some 91, _, _, _, _, _⟩) (v := ?v4) rfl (by kernel_rfl) (by kernel_rfl) (by kernel_rfl) (fun _ _ _ h => h) (Or.inl ⟨rfl, ?c4⟩) hH ?r4
    case c4 => (intro w' _; go_simp; (try with_reducible rfl))
    try simp only [Act.put, List.setIfInBounds_toArray, List.set_cons_zero, List.set_cons_succ]
    refine wpAnyH_take (i := 4) (oi := ⟨some 92, _, _, _, _, _⟩) (v := undef) rfl (by kernel_rfl) (by kernel_rfl) (by kernel_rfl) (fun _ _ _ h => h) (Or.inr ⟨rfl, rfl⟩) hH ?_
    try simp only [Act.put, List.setIfInBounds_toArray, List.set_cons_zero, List.set_cons_succ]
    refine wpAnyH_take (i := 5) (oi := ⟨some 93, _, _, _, _, _⟩) (v := undef) rfl (by kernel_rfl) (by kernel_rfl) (by kernel_rfl) (fun _ _ _ h => h) (Or.inr ⟨rfl, rfl⟩) hH ?_
    try simp only [Act.put, List.setIfInBounds_toArray, List.set_cons_zero, List.set_cons_succ]
    refine wpAnyH_take (i := 6) (oi := ⟨some 94, _, _, _, _, _⟩) (v := undef) rfl (by kernel_rfl) (by kernel_rfl) (by kernel_rfl) (fun _ _ _ h => h) (Or.inr ⟨rfl, rfl⟩) hH ?_
    try simp only [Act.put, List.setIfInBounds_toArray, List.set_cons_zero, List.set_cons_succ]
    refine wpAnyH_take (i := 7) (oi := ⟨some 95, _, _, _, _, _⟩) (v := ?v8) rfl (by kernel_rfl) (by kernel_rfl) (by kernel_rfl) (fun _ _ _ h => h) (Or.inl ⟨rfl, ?c8⟩) hH ?r8
    case c8 => (intro w' _; go_simp; (try with_reducible rfl))
    try simp only [Act.put, List.setIfInBounds_toArray, List.set_cons_zero, List.set_cons_succ]
    refine wpAnyH_take (i := 8) (oi := ⟨some 96, _, _, _, _, _⟩) (v := ?v9) rfl (by kernel_rfl) (by kernel_rfl) (by kernel_rfl) (fun _ _ _ h => h) (Or.inl ⟨rfl, ?c9⟩) hH ?r9
    case c9 => (intro w' _; go_simp; (try with_reducible rfl))
    try simp only [Act.put, List.setIfInBounds_toArray, List.set_cons_zero, List.set_cons_succ]
    refine wpAnyH_take (i := 9) (oi := ⟨some 97, _, _, _, _, _⟩) (v := undef) rfl (by kernel_rfl) (by kernel_rfl) (by kernel_rfl) (fun _ _ _ h => h) (Or.inr ⟨rfl, rfl⟩) hH ?_
    try simp only [Act.put, List.setIfInBounds_toArray, List.set_cons_zero, List.set_cons_succ]
    refine wpAnyH_take (i := 10) (oi := ⟨some 98, _, _, _, _, _⟩) (v := undef) rfl (by kernel_rfl) (by kernel_rfl) (by kernel_rfl) (fun _ _ _ h => h) (Or.inr ⟨rfl, rfl⟩) hH ?_
    try simp only [Act.put, List.setIfInBounds_toArray, List.set_cons_zero, List.set_cons_succ]
    refine wpAnyH_take (i := 11) (oi := ⟨some 99, _, _, _, _, _⟩) (v := undef) rfl (by kernel_rfl) (by kernel_rfl) (by kernel_rfl) (fun _ _ _ h => h) (Or.inr ⟨rfl, rfl⟩) hH ?_
    try simp only [Act.put, List.setIfInBounds_toArray, List.set_cons_zero, List.set_cons_succ]
    refine wpAnyH_take (i := 12) (oi := ⟨some 100, _, _, _, _, _⟩) (v := undef) rfl (by kernel_rfl) (by kernel_rfl) (by kernel_rfl) (fun _ _ _ h => h) (Or.inr ⟨rfl, rfl⟩) hH ?_
    try simp only [Act.put, List.setIfInBounds_toArray, List.set_cons_zero, List.set_cons_succ]
    refine wpAnyH_take (i := 13) (oi := ⟨some 101, _, _, _, _, _⟩) (v := undef) rfl (by kernel_rfl) (by kernel_rfl) (by kernel_rfl) (fun _ _ _ h => h) (Or.inr ⟨rfl, rfl⟩) hH ?_
    try simp only [Act.put, List.setIfInBounds_toArray, List.set_cons_zero, List.set_cons_succ]
    refine wpAnyH_take (i := 14) (oi := ⟨some 102, _, _, _, _, _⟩) (v := undef) rfl (by kernel_rfl) (by kernel_rfl) (by kernel_rfl) (fun _ _ _ h => h) (Or.inr ⟨rfl, rfl⟩) hH ?_
    try simp only [Act.put, List.setIfInBounds_toArray, List.set_cons_zero, List.set_cons_succ]
    refine wpAnyH_take (i := 15) (oi := ⟨some 103, _, _, _, _, _⟩) (v := undef) rfl (by kernel_rfl) (by kernel_rfl) (by kernel_rfl) (fun _ _ _ h => h) (Or.inr ⟨rfl, rfl⟩) hH ?_
    try simp only [Act.put, List.setIfInBounds_toArray, List.set_cons_zero, List.set_cons_succ]
    refine wpAnyH_take (i := 16) (oi := ⟨some 104, _, _, _, _, _⟩) (v := undef) rfl (by kernel_rfl) (by kernel_rfl) (by kernel_rfl) (fun _ _ _ h => h) (Or.inr ⟨rfl, rfl⟩) hH ?_
    try simp only [Act.put, List.setIfInBounds_toArray, List.set_cons_zero, List.set_cons_succ]
    refine wpAnyH_take (i := 17) (oi := ⟨some 105, _, _, _, _, _⟩) (v := undef) rfl (by kernel_rfl) (by kernel_rfl) (by kernel_rfl) (fun _ _ _ h => h) (Or.inr ⟨rfl, rfl⟩) hH ?_
    try simp only [Act.put, List.setIfInBounds_toArray, List.set_cons_zero, List.set_cons_succ]
    refine wpAnyH_take (i := 18) (oi := ⟨some 106, _, _, _, _, _⟩) (v := undef) rfl (by kernel_rfl) (by kernel_rfl) (by kernel_rfl) (fun _ _ _ h => h) (Or.inr ⟨rfl, rfl⟩) hH ?_
    try simp only [Act.put, List.setIfInBounds_toArray, List.set_cons_zero, List.set_cons_succ]
    refine wpAnyH_take (i := 19) (oi := ⟨some 107, _, _, _, _, _⟩) (v := undef) rfl (by kernel_rfl) (by kernel_rfl) (by kernel_rfl) (fun _ _ _ h => h) (Or.inr ⟨rfl, rfl⟩) hH ?_
    try simp only [Act.put, List.setIfInBounds_toArray, List.set_cons_zero, List.set_cons_succ]
    refine wpAnyH_take (i := 20) (oi := ⟨some 108, _, _, _, _, _⟩) (v := undef) rfl (by kernel_rfl) (by kernel_rfl) (by kernel_rfl) (fun _ _ _ h => h) (Or.inr ⟨rfl, rfl⟩) hH ?_
    try simp only [Act.put, List.setIfInBounds_toArray, List.set_cons_zero, List.set_cons_succ]
    refine wpAnyH_take (i := 21) (oi := ⟨some 109, _, _, _, _, _⟩) (v := ?v22) rfl (by kernel_rfl) (by kernel_rfl) (by kernel_rfl) (fun _ _ _ h => h) (Or.inl ⟨rfl, ?c22⟩) hH ?r22
    case c22 => (intro w' _; go_simp; (try with_reducible rfl))
    try simp only [Act.put, List.setIfInBounds_toArray, List.set_cons_zero, List.set_cons_succ]
    refine wpAnyH_take (i := 22) (oi := ⟨some 6, _, _, _, _, _⟩) (v := ?v23) rfl (by kernel_rfl) (by kernel_rfl) (by kernel_rfl) (fun _ _ _ h => h) (Or.inl ⟨rfl, ?c23⟩) hH ?r23
    case c23 => (intro w' _; go_simp; (try with_reducible rfl))
    try simp only [Act.put, List.setIfInBounds_toArray, List.set_cons_zero, List.set_cons_succ]
    refine wpAnyH_done (by kernel_rfl) ?_ _
    have H4 := hH
    clear hH H3
    go_wp2_with fail
    go_ret
    exact ⟨_, _, rfl, H4.out.pq⟩
  · have d1 : decide (xn < 1) = false := decide_eq_false c1
    by_cases c5 : 5 < xn
    · have d5 : decide (5 < xn) = true := decide_eq_true c5
      refine wp_region_held_drew (S := fun w' => Hid (DQ w Oa Ob Ba Ma Bb z N T (countS s xn) (countS s xn) (doC ⟨xk, xn, xp, xe, xl, .slice Av xl.length cv⟩) 47 gx w')) (by kernel_rfl) (Lib.hid (H3.out.next (Below.refl _ _).drew)) (fun hH => ?_)
      refine wpAnyH_take (i := 0) (oi := ⟨some 88, _, _, _, _, _⟩) (v := ?v201) rfl (by kernel_rfl) (by kernel_rfl) (by kernel_rfl) (fun _ _ _ h => h) (Or.inl ⟨rfl, ?c201⟩) hH ?r201
      case c201 => (intro w' _; go_simp; (try with_reducible rfl))
      try simp only [Act.put, List.setIfInBounds_toArray, List.set_cons_zero, List.set_cons_succ]
      refine wpAnyH_take (i := 1) (oi := ⟨some 89, _, _, _, _, _⟩) (v := ?v202) rfl (by kernel_rfl) (by kernel_rfl) (by kernel_rfl) (fun _ _ _ h => h) (Or.inl ⟨rfl, ?c202⟩) hH ?r202
      case c202 => (intro w' hS; obtain ⟨q0, q1, q2, q3, q4, q5, q6, q7, q8, q9, q10, q11, q12, q13, q14⟩ := do_cells hS.out.xb; go_simp; (try with_reducible rfl))
      try simp only [Act.put, List.setIfInBounds_toArray, List.set_cons_zero, List.set_cons_succ]
      refine wpAnyH_take (i := 2) (oi := ⟨some 90, _, _, _, _, _⟩) (v := ?v203) rfl (by kernel_rfl) (by kernel_rfl) (by kernel_rfl) (fun _ _ _ h => h) (Or.inl ⟨rfl, ?c203⟩) hH ?r203
      case c203 => (intro w' _; go_simp; (try with_reducible rfl))
      try simp only [Act.put, List.setIfInBounds_toArray, List.set_cons_zero, List.set_cons_succ]
      refine wpAnyH_take (i := 3) (oi := ⟨some 91, _, _, _, _, _⟩) (v := ?v204) rfl (by kernel_rfl) (by kernel_rfl) (by kernel_rfl) (fun _ _ _ h => h) (Or.inl ⟨rfl, ?c204⟩) hH ?r204
      case c204 => (intro w' _; go_simp; (try with_reducible rfl))
      try simp only [Act.put, List.setIfInBounds_toArray, List.set_cons_zero, List.set_cons_succ]
      refine wpAnyH_take (i := 4) (oi := ⟨some 92, _, _, _, _, _⟩) (v := ?v205) rfl (by kernel_rfl) (by kernel_rfl) (by kernel_rfl) (fun _ _ _ h => h) (Or.inl ⟨rfl, ?c205⟩) hH ?r205
      case c205 => (intro w' _; go_simp; (try with_reducible rfl))
      try simp only [Act.put, List.setIfInBounds_toArray, List.set_cons_zero, List.set_cons_succ]
      refine wpAnyH_take (i := 5) (oi := ⟨some 93, _, _, _, _, _⟩) (v := ?v206) rfl (by kernel_rfl) (by kernel_rfl) (by kernel_rfl) (fun _ _ _ h => h) (Or.inl ⟨rfl, ?c206⟩) hH ?r206
      case c206 => (intro w' hS; obtain ⟨q0, q1, q2, q3, q4, q5, q6, q7, q8, q9, q10, q11, q12, q13, q14⟩ := do_cells hS.out.xb; go_simp; (try with_reducible rfl))
      try simp only [Act.put, List.setIfInBounds_toArray, List.set_cons_zero, List.set_cons_succ]
      refine wpAnyH_take (i := 6) (oi := ⟨some 94, _, _, _, _, _⟩) (v := ?v207) rfl (by kernel_rfl) (by kernel_rfl) (by kernel_rfl) (fun _ _ _ h => h) (Or.inl ⟨rfl, ?c207⟩) hH ?r207
      case c207 => (intro w' _; go_simp; (try with_reducible rfl))
      try simp only [Act.put, List.setIfInBounds_toArray, List.set_cons_zero, List.set_cons_succ]
      refine wpAnyH_take (i := 7) (oi := ⟨some 95, _, _, _, _, _⟩) (v := ?v208) rfl (by kernel_rfl) (by kernel_rfl) (by kernel_rfl) (fun _ _ _ h => h) (Or.inl ⟨rfl, ?c208⟩) hH ?r208
      case c208 => (intro w' _; go_simp; (try with_reducible rfl))
      try simp only [Act.put, List.setIfInBounds_toArray, List.set_cons_zero, List.set_cons_succ]
      refine wpAnyH_take (i := 8) (oi := ⟨some 96, _, _, _, _, _⟩) (v := ?v209) rfl (by kernel_rfl) (by kernel_rfl) (by kernel_rfl) (fun _ _ _ h => h) (Or.inl ⟨rfl, ?c209⟩) hH ?r209
      case c209 => (intro w' _; go_simp; (try with_reducible rfl))
      try simp only [Act.put, List.setIfInBounds_toArray, List.set_cons_zero, List.set_cons_succ]
      refine wpAnyH_take (i := 9) (oi := ⟨some 97, _, _, _, _, _⟩) (v := undef) rfl (by kernel_rfl) (by kernel_rfl) (by kernel_rfl) (fun _ _ _ h => h) (Or.inr ⟨rfl, rfl⟩) hH ?_
      try simp only [Act.put, List.setIfInBounds_toArray, List.set_cons_zero, List.set_cons_succ]
      refine wpAnyH_take (i := 10) (oi := ⟨some 98, _, _, _, _, _⟩) (v := undef) rfl (by kernel_rfl) (by kernel_rfl) (by kernel_rfl) (fun _ _ _ h => h) (Or.inr ⟨rfl, rfl⟩) hH ?_
      try simp only [Act.put, List.setIfInBounds_toArray, List.set_cons_zero, List.set_cons_succ]
      refine wpAnyH_take (i := 11) (oi := ⟨some 99, _, _, _, _, _⟩) (v := undef) rfl (by kernel_rfl) (by kernel_rfl) (by kernel_rfl) (fun _ _ _ h => h) (Or.inr ⟨rfl, rfl⟩) hH ?_
      try simp only [Act.put, List.setIfInBounds_toArray, List.set_cons_zero, List.set_cons_succ]
      refine wpAnyH_take (i := 12) (oi := ⟨some 100, _, _, _, _, _⟩) (v := undef) rfl (by kernel_rfl) (by kernel_rfl) (by kernel_rfl) (fun _ _ _ h => h) (Or.inr ⟨rfl, rfl⟩) hH ?_
      try simp only [Act.put, List.setIfInBounds_toArray, List.set_cons_zero, List.set_cons_succ]
      refine wpAnyH_take (i := 13) (oi := ⟨some 101, _, _, _, _, _⟩) (v := undef) rfl (by kernel_rfl) (by kernel_rfl) (by kernel_rfl) (fun _ _ _ h => h) (Or.inr ⟨rfl, rfl⟩) hH ?_
      try simp only [Act.put, List.setIfInBounds_toArray, List.set_cons_zero, List.set_cons_succ]
      refine wpAnyH_take (i := 14) (oi := ⟨some 102, _, _, _, _, _⟩) (v := undef) rfl (by kernel_rfl) (by kernel_rfl) (by kernel_rfl) (fun _ _ _ h => h) (Or.inr ⟨rfl, rfl⟩) hH ?_
      try simp only [Act.put, List.setIfInBounds_toArray, List.set_cons_zero, List.set_cons_succ]
      refine wpAnyH_take (i := 15) (oi := ⟨some 103, _, _, _, _, _⟩) (v := undef) rfl (by kernel_rfl) (by kernel_rfl) (by kernel_rfl) (fun _ _ _ h => h) (Or.inr ⟨rfl, rfl⟩) hH ?_
      try simp only [Act.put, List.setIfInBounds_toArray, List.set_cons_zero, List.set_cons_succ]
      refine wpAnyH_take (i := 16) (oi := ⟨some 104, _, _, _, _, _⟩) (v := undef) rfl (by kernel_rfl) (by kernel_rfl) (by kernel_rfl) (fun _ _ _ h => h) (Or.inr ⟨rfl, rfl⟩) hH ?_
      try simp only [Act.put, List.setIfInBounds_toArray, List.set_cons_zero, List.set_cons_succ]
      refine wpAnyH_take (i := 17) (oi := ⟨some 105, _, _, _, _, _⟩) (v := undef) rfl (by kernel_rfl) (by kernel_rfl) (by kernel_rfl) (fun _ _ _ h => h) (Or.inr ⟨rfl, rfl⟩) hH ?_
      try simp only [Act.put, List.setIfInBounds_toArray, List.set_cons_zero, List.set_cons_succ]
      refine wpAnyH_take (i := 18) (oi := ⟨some 106, _, _, _, _, _⟩) (v := undef) rfl (by kernel_rfl) (by kernel_rfl) (by kernel_rfl) (fun _ _ _ h => h) (Or.inr ⟨rfl, rfl⟩) hH ?_
      try simp only [Act.put, List.setIfInBounds_toArray, List.set_cons_zero, List.set_cons_succ]
      refine wpAnyH_take (i := 19) (oi := ⟨some 107, _, _, _, _, _⟩) (v := undef) rfl (by kernel_rfl) (by kernel_rfl) (by kernel_rfl) (fun _ _ _ h => h) (Or.inr ⟨rfl, rfl⟩) hH ?_
      try simp only [Act.put, List.setIfInBounds_toArray, List.set_cons_zero, List.set_cons_succ]
      refine wpAnyH_take (i := 20) (oi := ⟨some 108, _, _, _, _, _⟩) (v := undef) rfl (by kernel_rfl) (by kernel_rfl) (by kernel_rfl) (fun _ _ _ h => h) (Or.inr ⟨rfl, rfl⟩) hH ?_
      try simp only [Act.put, List.setIfInBounds_toArray, List.set_cons_zero, List.set_cons_succ]
      refine wpAnyH_take (i := 21) (oi := ⟨some 109, _, _, _, _, _⟩) (v := ?v222) rfl (by kernel_rfl) (by kernel_rfl) (by kernel_rfl) (fun _ _ _ h => h) (Or.inl ⟨rfl, ?c222⟩) hH ?r222
      case c222 => (intro w' _; go_simp; (try with_reducible rfl))
      try simp only [Act.put, List.setIfInBounds_toArray, List.set_cons_zero, List.set_cons_succ]
      refine wpAnyH_take (i := 22) (oi := ⟨some 6, _, _, _, _, _⟩) (v := ?v223) rfl (by kernel_rfl) (by kernel_rfl) (by kernel_rfl) (fun _ _ _ h => h) (Or.inl ⟨rfl, ?c223⟩) hH ?r223
      case c223 => (intro w' _; go_simp; (try with_reducible rfl))
      try simp only [Act.put, List.setIfInBounds_toArray, List.set_cons_zero, List.set_cons_succ]
      refine wpAnyH_done (by kernel_rfl) ?_ _
      have H4 := hH
      clear hH H3
      go_wp2_with fail
      go_ret
      exact ⟨_, _, rfl, H4.out.pq⟩
    · have d5 : decide (5 < xn) = false := decide_eq_false c5
      obtain ⟨j, rfl⟩ : ∃ j : Nat, xn = (j : Int) := ⟨xn.toNat, by omega⟩
      have h1 : 1 ≤ j := by omega
      have h5 : j ≤ 5 := by omega
      have h6 : (j : Int) < 6 := by omega
      have HSV : Hid (statV (countS s (j : Int)) (j : Int) = (countS s (j : Int)).tl j) := by
        show _ = _
        unfold statV
        rw [if_pos (by omega)]
        rfl
      refine wp_region_held_drew (S := fun w' => Hid (DQ w Oa Ob Ba Ma Bb z N T (countS s (j : Int)) (countS s (j : Int)) (doC ⟨xk, (j : Int), xp, xe, xl, .slice Av xl.length cv⟩) 47 gx w')) (by kernel_rfl) (Lib.hid (H3.out.next (Below.refl _ _).drew)) (fun hH => ?_)
      refine wpAnyH_take (i := 0) (oi := ⟨some 88, _, _, _, _, _⟩) (v := ?v401) rfl (by kernel_rfl) (by kernel_rfl) (by kernel_rfl) (fun _ _ _ h => h) (Or.inl ⟨rfl, ?c401⟩) hH ?r401
      case c401 => (intro w' _; go_simp; (try with_reducible rfl))
      try simp only [Act.put, List.setIfInBounds_toArray, List.set_cons_zero, List.set_cons_succ]
      refine wpAnyH_take (i := 1) (oi := ⟨some 89, _, _, _, _, _⟩) (v := ?v402) rfl (by kernel_rfl) (by kernel_rfl) (by kernel_rfl) (fun _ _ _ h => h) (Or.inl ⟨rfl, ?c402⟩) hH ?r402
      case c402 => (intro w' hS; obtain ⟨q0, q1, q2, q3, q4, q5, q6, q7, q8, q9, q10, q11, q12, q13, q14⟩ := do_cells hS.out.xb; go_simp; (try with_reducible rfl))
      try simp only [Act.put, List.setIfInBounds_toArray, List.set_cons_zero, List.set_cons_succ]
      refine wpAnyH_take (i := 2) (oi := ⟨some 90, _, _, _, _, _⟩) (v := ?v403) rfl (by kernel_rfl) (by kernel_rfl) (by kernel_rfl) (fun _ _ _ h => h) (Or.inl ⟨rfl, ?c403⟩) hH ?r403
      case c403 => (intro w' _; go_simp; (try with_reducible rfl))
      try simp only [Act.put, List.setIfInBounds_toArray, List.set_cons_zero, List.set_cons_succ]
      refine wpAnyH_take (i := 3) (oi := ⟨some 91, _, _, _, _, _⟩) (v := ?v404) rfl (by kernel_rfl) (by kernel_rfl) (by kernel_rfl) (fun _ _ _ h => h) (Or.inl ⟨rfl, ?c404⟩) hH ?r404
      case c404 => (intro w' _; go_simp; (try with_reducible rfl))
      try simp only [Act.put, List.setIfInBounds_toArray, List.set_cons_zero, List.set_cons_succ]
      refine wpAnyH_take (i := 4) (oi := ⟨some 92, _, _, _, _, _⟩) (v := ?v405) rfl (by kernel_rfl) (by kernel_rfl) (by kernel_rfl) (fun _ _ _ h => h) (Or.inl ⟨rfl, ?c405⟩) hH ?r405
      case c405 => (intro w' _; go_simp; (try with_reducible rfl))
      try simp only [Act.put, List.setIfInBounds_toArray, List.set_cons_zero, List.set_cons_succ]
      refine wpAnyH_take (i := 5) (oi := ⟨some 93, _, _, _, _, _⟩) (v := ?v406) rfl (by kernel_rfl) (by kernel_rfl) (by kernel_rfl) (fun _ _ _ h => h) (Or.inl ⟨rfl, ?c406⟩) hH ?r406
      case c406 => (intro w' hS; obtain ⟨q0, q1, q2, q3, q4, q5, q6, q7, q8, q9, q10, q11, q12, q13, q14⟩ := do_cells hS.out.xb; go_simp; (try with_reducible rfl))
      try simp only [Act.put, List.setIfInBounds_toArray, List.set_cons_zero, List.set_cons_succ]
      refine wpAnyH_take (i := 6) (oi := ⟨some 94, _, _, _, _, _⟩) (v := ?v407) rfl (by kernel_rfl) (by kernel_rfl) (by kernel_rfl) (fun _ _ _ h => h) (Or.inl ⟨rfl, ?c407⟩) hH ?r407
      case c407 => (intro w' _; go_simp; (try with_reducible rfl))
      try simp only [Act.put, List.setIfInBounds_toArray, List.set_cons_zero, List.set_cons_succ]
      refine wpAnyH_take (i := 7) (oi := ⟨some 95, _, _, _, _, _⟩) (v := ?v408) rfl (by kernel_rfl) (by kernel_rfl) (by kernel_rfl) (fun _ _ _ h => h) (Or.inl ⟨rfl, ?c408⟩) hH ?r408
      case c408 => (intro w' _; go_simp; (try with_reducible rfl))
      try simp only [Act.put, List.setIfInBounds_toArray, List.set_cons_zero, List.set_cons_succ]
      refine wpAnyH_take (i := 8) (oi := ⟨some 96, _, _, _, _, _⟩) (v := ?v409) rfl (by kernel_rfl) (by kernel_rfl) (by kernel_rfl) (fun _ _ _ h => h) (Or.inl ⟨rfl, ?c409⟩) hH ?r409
      case c409 => (intro w' _; go_simp; (try with_reducible rfl))
      try simp only [Act.put, List.setIfInBounds_toArray, List.set_cons_zero, List.set_cons_succ]
      refine wpAnyH_take (i := 9) (oi := ⟨some 97, _, _, _, _, _⟩) (v := ?v410) rfl (by kernel_rfl) (by kernel_rfl) (by kernel_rfl) (fun _ _ _ h => h) (Or.inl ⟨rfl, ?c410⟩) hH ?r410
      case c410 => (intro w' _; go_simp; (try with_reducible rfl))
      try simp only [Act.put, List.setIfInBounds_toArray, List.set_cons_zero, List.set_cons_succ]
      refine wpAnyH_take (i := 10) (oi := ⟨some 98, _, _, _, _, _⟩) (v := ?v411) rfl (by kernel_rfl) (by kernel_rfl) (by kernel_rfl) (fun _ _ _ h => h) (Or.inl ⟨rfl, ?c411⟩) hH ?r411
      case c411 => (intro w' _; go_simp; (try with_reducible rfl))
      try simp only [Act.put, List.setIfInBounds_toArray, List.set_cons_zero, List.set_cons_succ]
      refine wpAnyH_take (i := 11) (oi := ⟨some 99, _, _, _, _, _⟩) (v := ?v412) rfl (by kernel_rfl) (by kernel_rfl) (by kernel_rfl) (fun _ _ _ h => h) (Or.inl ⟨rfl, ?c412⟩) hH ?r412
      case c412 => (intro w' hS; obtain ⟨q0, q1, q2, q3, q4, q5, q6, q7, q8, q9, q10, q11, q12, q13, q14⟩ := do_cells hS.out.xb; go_simp; (try with_reducible rfl))
      try simp only [Act.put, List.setIfInBounds_toArray, List.set_cons_zero, List.set_cons_succ]
      refine wpAnyH_take (i := 13) (oi := ⟨some 101, _, _, _, _, _⟩) (v := ?v413) rfl (by kernel_rfl) (by kernel_rfl) (by kernel_rfl) (fun _ _ _ h => h) (Or.inl ⟨rfl, ?c413⟩) hH ?r413
      case c413 => (intro w' _; go_simp; (try with_reducible rfl))
      try simp only [Act.put, List.setIfInBounds_toArray, List.set_cons_zero, List.set_cons_succ]
      refine wpAnyH_take (i := 14) (oi := ⟨some 102, _, _, _, _, _⟩) (v := ?v414) rfl (by kernel_rfl) (by kernel_rfl) (by kernel_rfl) (fun _ _ _ h => h) (Or.inl ⟨rfl, ?c414⟩) hH ?r414
      case c414 => (intro w' _; go_simp; (try with_reducible rfl))
      try simp only [Act.put, List.setIfInBounds_toArray, List.set_cons_zero, List.set_cons_succ]
      refine wpAnyH_take (i := 15) (oi := ⟨some 103, _, _, _, _, _⟩) (v := ?v415) rfl (by kernel_rfl) (by kernel_rfl) (by kernel_rfl) (fun _ _ _ h => h) (Or.inl ⟨rfl, ?c415⟩) hH ?r415
      case c415 => (intro w' hS; obtain ⟨q0, q1, q2, q3, q4, q5, q6, q7, q8, q9, q10, q11, q12, q13, q14⟩ := do_cells hS.out.xb; go_simp; (try with_reducible rfl))
      try simp only [Act.put, List.setIfInBounds_toArray, List.set_cons_zero, List.set_cons_succ]
      refine wpAnyH_take (i := 16) (oi := ⟨some 104, _, _, _, _, _⟩) (v := ?v416) rfl (by kernel_rfl) (by kernel_rfl) (by kernel_rfl) (fun _ _ _ h => h) (Or.inl ⟨rfl, ?c416⟩) hH ?r416
      case c416 => (intro w' _; go_simp; (try with_reducible rfl))
      try simp only [Act.put, List.setIfInBounds_toArray, List.set_cons_zero, List.set_cons_succ]
      refine wpAnyH_take (i := 17) (oi := ⟨some 105, _, _, _, _, _⟩) (v := ?v417) rfl (by kernel_rfl) (by kernel_rfl) (by kernel_rfl) (fun _ _ _ h => h) (Or.inl ⟨rfl, ?c417⟩) hH ?r417
      case c417 => (intro w' _; go_simp; (try with_reducible rfl))
      try simp only [Act.put, List.setIfInBounds_toArray, List.set_cons_zero, List.set_cons_succ]
      refine wpAnyH_take (i := 18) (oi := ⟨some 106, _, _, _, _, _⟩) (v := ?v418) rfl (by kernel_rfl) (by kernel_rfl) (by kernel_rfl) (fun _ _ _ h => h) (Or.inl ⟨rfl, ?c418⟩) hH ?r418
      case c418 => (intro w' _; go_simp; (try with_reducible rfl))
      try simp only [Act.put, List.setIfInBounds_toArray, List.set_cons_zero, List.set_cons_succ]
      refine wpAnyH_take (i := 19) (oi := ⟨some 107, _, _, _, _, _⟩) (v := ?v419) rfl (by kernel_rfl) (by kernel_rfl) (by kernel_rfl) (fun _ _ _ h => h) (Or.inl ⟨rfl, ?c419⟩) hH ?r419
      case c419 => (intro w' hS; have y := hS.out.pq.b.told h1 h5; go_simp; (try with_reducible rfl))
      try simp only [Act.put, List.setIfInBounds_toArray, List.set_cons_zero, List.set_cons_succ]
      refine wpAnyH_ready (rs := [12]) (by kernel_rfl) (by simp) (AllReadyH.cons rfl (fun K hK => ?_) (AllReadyH.nil))
      go_simp
      go_at_call 12
      refine (stat_p hH.out.pq.a (j : Int)).mono ?_
      rw [HSV.out]
      rintro e w6 ⟨rfl, hbp⟩
      refine hK.out _ _ (Lib.hid (hH.out.next hbp)) (fun hH => ?_)
      clear hK K
      clear hbp
      try simp only [Act.put, List.setIfInBounds_toArray, List.set_cons_zero, List.set_cons_succ]
      refine wpAnyH_take (i := 20) (oi := ⟨some 108, _, _, _, _, _⟩) (v := ?v420) rfl (by kernel_rfl) (by kernel_rfl) (by kernel_rfl) (fun _ _ _ h => h) (Or.inl ⟨rfl, ?c420⟩) hH ?r420
      case c420 => (intro w' _; go_simp; (try with_reducible rfl))
      try simp only [Act.put, List.setIfInBounds_toArray, List.set_cons_zero, List.set_cons_succ]
      refine wpAnyH_take (i := 21) (oi := ⟨some 109, _, _, _, _, _⟩) (v := ?v421) rfl (by kernel_rfl) (by kernel_rfl) (by kernel_rfl) (fun _ _ _ h => h) (Or.inl ⟨rfl, ?c421⟩) hH ?r421
      case c421 => (intro w' _; go_simp; (try with_reducible rfl))
      try simp only [Act.put, List.setIfInBounds_toArray, List.set_cons_zero, List.set_cons_succ]
      refine wpAnyH_take (i := 22) (oi := ⟨some 6, _, _, _, _, _⟩) (v := ?v422) rfl (by kernel_rfl) (by kernel_rfl) (by kernel_rfl) (fun _ _ _ h => h) (Or.inl ⟨rfl, ?c422⟩) hH ?r422
      case c422 => (intro w' _; go_simp; (try with_reducible rfl))
      try simp only [Act.put, List.setIfInBounds_toArray, List.set_cons_zero, List.set_cons_succ]
      refine wpAnyH_done (by kernel_rfl) ?_ _
      have H4 := hH
      clear hH H3
      go_wp2_with fail
      go_ret
      exact ⟨_, _, rfl, H4.out.pq⟩
theorem does_any (H : PQ w Oa Ob Ba Ma Bb z N T s s W) (hx : (⟨xk, xn, xp, xe, xl, .slice Av xl.length cv⟩ : Dk).Ok) (hr : Rds w w.heap.size (.slice Av xl.length cv) xl) :
    Calls Tryz.prog 9 #[ptr Ba, ptr Bb, .agg (doC ⟨xk, xn, xp, xe, xl, .slice Av xl.length cv⟩)] W (Done w Ba Ma Bb z N T (stepD N T s ⟨xk, xn, xp, xe, xl, .slice Av xl.length cv⟩)) := by
  unfold stepD
  simp only
  split
  · exact does_0 H hx hr (by omega)
  · split
    · exact does_1 H hx hr (by omega)
    · split
      · exact does_2 H hx hr (by omega)
      · split
        · exact does_3 H hx hr (by omega)
        · split
          · exact does_4 H hx hr (by omega)
          · exact does_5 H hx hr (by omega)
theorem Inv.stepD {x : Dk} (H : Inv N s) (hx : x.Ok) : Inv N (stepD N T s x) := by
  unfold Au.stepD
  split
  · exact H.tick x.n
  · split
    · exact H.swap (few_ok hx.l)
    · split
      · exact H.del x.k
      · split
        · exact H.drop x.k
        · split
          · exact H.count x.n
          · exact H.act hx.p
end
end Au
end Go.Proofs.YtgcnhbjoalemlaaGreatDoor
/- Layer 18: the law's alike: both firewalls hold the same. (Written by wip/tools/mkAulW.py.) -/
set_option linter.unusedVariables false
set_option linter.unusedSimpArgs false
set_option maxRecDepth 100000
namespace Go.Proofs.YtgcnhbjoalemlaaGreatDoor
open Go.ChangeShapes Go.WideShapes Go.ChangeAt Go.RowKit Go.Mtl Go.Lib
namespace Au
open AutM
open RulM (R)
open MatM (K)
theorem ga_fields : Tryz.prog.underlying 77 = some (.struct (Tryz.prog.fieldsOf 77)) := by kernel_rfl
theorem ga_stood : Tryz.prog.stoodInHeld 77 = false := by kernel_rfl
theorem ga_lay : (Tryz.prog.fieldsOf 77).toList.map (fun f => (f.type, f.offset)) = [(3, 0), (3, 1), (3, 2)] := by kernel_rfl
theorem ga_names : (Tryz.prog.fieldsOf 77).toList.all (fun f => f.name != "_") = true := by kernel_rfl
theorem ga_same (a b c : Int) (w : World) : (Op.equalIn 10000 77 (.agg #[.int .i64 a, .int .i64 b, .int .i64 c]) (.agg #[.int .i64 a, .int .i64 b, .int .i64 c])).run Tryz.prog w = .ok true w := by
  rw [show (10000 : Nat) = 9999 + 1 from rfl, run_equalIn_struct w 9999 _ _ _ ga_fields ga_stood]
  have hl := ga_lay
  have hn := ga_names
  generalize (Tryz.prog.fieldsOf 77).toList = l at hl hn ⊢
  rcases l with _ | ⟨f1, _ | ⟨f2, _ | ⟨f3, _ | ⟨f4, l⟩⟩⟩⟩ <;> simp at hl hn
  obtain ⟨⟨t1, o1⟩, ⟨t2, o2⟩, t3, o3⟩ := hl
  obtain ⟨n1, n2, n3⟩ := hn
  have c1 : (part 3 #[.int .i64 a, .int .i64 b, .int .i64 c] 0).run Tryz.prog w = .ok (.int .i64 a) w := by simp [go_sem]
  have c2 : (part 3 #[.int .i64 a, .int .i64 b, .int .i64 c] 1).run Tryz.prog w = .ok (.int .i64 b) w := by simp [go_sem]
  have c3 : (part 3 #[.int .i64 a, .int .i64 b, .int .i64 c] 2).run Tryz.prog w = .ok (.int .i64 c) w := by simp [go_sem]
  have q : ∀ x : Int, (Op.equalIn 9999 3 (.int .i64 x) (.int .i64 x)).run Tryz.prog w = .ok (x == x) w := fun x => run_equalIn_int w 9998 _ .i64 .i64 x x (by kernel_rfl)
  simp only [Op.eqFields, ne_eq, n1, n2, n3, not_false_eq_true, if_true, t1, t2, t3, o1, o2, o3, Sem.run_bind, c1, c2, c3, Result.andThen_ok, q, Sem.run_ite, Sem.run_pure, beq_self_eq_true]
  rfl
/-- A flow's seven cells in a row. -/
structure At7 (W : World) (g i : Nat) (f : Fl) : Prop where
  c0 : W.cell? ⟨g, i * 7, none⟩ = some (.int .u32 (f.k.a : Int))
  c1 : W.cell? ⟨g, i * 7 + 1, none⟩ = some (.int .u32 (f.k.b : Int))
  c2 : W.cell? ⟨g, i * 7 + 2, none⟩ = some (.int .u16 (f.k.p : Int))
  c3 : W.cell? ⟨g, i * 7 + 3, none⟩ = some (.int .u16 (f.k.q : Int))
  c4 : W.cell? ⟨g, i * 7 + 4, none⟩ = some (.int .u8 (f.k.r : Int))
  c5 : W.cell? ⟨g, i * 7 + 5, none⟩ = some (.int .u64 (FloM.gI f.c f.n f.s))
theorem At7.next {W W' : World} {g i : Nat} {f : Fl} (H : At7 W g i f) (hg : g < W.heap.size) (hb : Below W.heap.size W W') : At7 W' g i f :=
  ⟨(hb.cell (p := ⟨g, _, none⟩) hg).trans H.c0, (hb.cell (p := ⟨g, _, none⟩) hg).trans H.c1, (hb.cell (p := ⟨g, _, none⟩) hg).trans H.c2, (hb.cell (p := ⟨g, _, none⟩) hg).trans H.c3, (hb.cell (p := ⟨g, _, none⟩) hg).trans H.c4, (hb.cell (p := ⟨g, _, none⟩) hg).trans H.c5⟩
theorem At5.next {W W' : World} {g i : Nat} {k : Ke} (H : At5 W g i k) (hg : g < W.heap.size) (hb : Below W.heap.size W W') : At5 W' g i k :=
  ⟨(hb.cell (p := ⟨g, _, none⟩) hg).trans H.c0, (hb.cell (p := ⟨g, _, none⟩) hg).trans H.c1, (hb.cell (p := ⟨g, _, none⟩) hg).trans H.c2, (hb.cell (p := ⟨g, _, none⟩) hg).trans H.c3, (hb.cell (p := ⟨g, _, none⟩) hg).trans H.c4⟩
/-- What alike reads of the reference's firewall. -/
structure VW (W : World) (B : Nat) (s : St) (A : Option Addr) (n c : Nat) : Prop where
  bl : B < W.heap.size
  y18 : W.cell? ⟨B, 18, none⟩ = some (.int .u64 (GatM.gI s.c s.g s.v))
  y20 : W.cell? ⟨B, 20, none⟩ = some (.slice A n c)
  le : n ≤ c
  cm : c ≤ 9223372036854775807
  fl : ∀ i f, s.fs[i]? = some f → ∃ g, A = some ⟨g, 0, none⟩ ∧ g < W.heap.size ∧ At7 W g i f
theorem VW.next {W W' : World} {B : Nat} {s : St} {A : Option Addr} {n c : Nat} (H : VW W B s A n c) (hb : Below W.heap.size W W') : VW W' B s A n c :=
  ⟨Nat.lt_of_lt_of_le H.bl hb.size, (hb.cell (p := ⟨B, 18, none⟩) H.bl).trans H.y18, (hb.cell (p := ⟨B, 20, none⟩) H.bl).trans H.y20, H.le, H.cm, fun i f hf => by
    obtain ⟨g, e, hg, h⟩ := H.fl i f hf
    exact ⟨g, e, Nat.lt_of_lt_of_le hg hb.size, h.next hg hb⟩⟩
theorem QAt.vw {W : World} {O : Nat → Prop} {B : Nat} {z N : Int} {T : Nat → Int} {s : St} (H : QAt W O B z N T s) : ∃ A c, VW W B s A s.fs.length c := by
  obtain ⟨⟨vr, vf, vs, hist, h, _⟩, _⟩ := H
  obtain ⟨A, c, e, h1, h2⟩ := h.len2
  subst e
  refine ⟨A, c, h.lt _ h.ob, h.at_ 18 _ rfl, h.at_ 20 _ rfl, h1, h2, fun i f hf => ?_⟩
  obtain ⟨g, c', e, -, -, ho, -, q0, q1, q2, q3, q4, q5, -⟩ := h.flow hf
  injection e with e _ _
  exact ⟨g, e, h.lt _ ho, q0, q1, q2, q3, q4, q5⟩
set_option maxHeartbeats 4000000 in
theorem alike_any {w W : World} {Oa Ob : Nat → Prop} {Ba Ma Bb : Nat} {z N : Int} {T : Nat → Int} {s : St} (H : PQ w Oa Ob Ba Ma Bb z N T s s W) :
    Calls Tryz.prog 10 #[ptr Ba, ptr Bb] W fun e w' => e = .returned (.bool true) ∧ Below W.heap.size W w' := by
  have HH := Lib.hid H
  have HI := Lib.hid H.a.2.1
  have HGA := Lib.hid (fun W => ga_same s.v s.g s.c W)
  have HUP : Hid (∀ W, Calls Tryz.prog 32 #[.int .u64 (GatM.gI s.c s.g s.v)] W fun e w' => e = .returned (.agg (Ga.gtc s.v s.g s.c)) ∧ Below W.heap.size W w') := fun W => Ga.refUnpack_any HI.out.fit W
  clear H
  go_enter Tryz.func10, Tryz.ntmps10
  go_wp2_with fail
  go_at_call 19
  refine (keys_any HH.out.a).mono ?_
  rintro e w1 ⟨p, c, rfl, hk, hb⟩
  have HB1 := Lib.hid hb
  have H1 := Lib.hid (HH.out.next hb)
  have HKY := Lib.hid hk
  obtain ⟨A, c2, hvw⟩ := H1.out.b.vw
  obtain ⟨n, hn⟩ : ∃ n, s.fs.length = n := ⟨_, rfl⟩
  rw [hn] at hvw ⊢
  have HN := Lib.hid hn
  have HV := Lib.hid hvw
  have hnb : n ≤ 4095 := by have h1 := HI.out.cnt; have h2 := HI.out.cap; have h3 := HI.out.cap1; omega
  clear hb hk hvw hn HH
  go_wp2_with fail
  refine wp_region_held_drew (S := fun w' => Hid (Below w1.heap.size w1 w')) (by kernel_rfl) (Lib.hid (Below.refl _ w1).drew) (fun hH => ?_)
  refine wpAnyH_take (i := 0) (oi := ⟨some 11, _, _, _, _, _⟩) (v := ?v1) rfl (by kernel_rfl) (by kernel_rfl) (by kernel_rfl) (fun _ _ _ h => h) (Or.inl ⟨rfl, ?c1⟩) hH ?r1
  case c1 => (intro w' _; go_simp; (try with_reducible rfl))
  try simp only [Act.put, List.setIfInBounds_toArray, List.set_cons_zero, List.set_cons_succ]
  refine wpAnyH_take (i := 2) (oi := ⟨some 13, _, _, _, _, _⟩) (v := ?v2) rfl (by kernel_rfl) (by kernel_rfl) (by kernel_rfl) (fun _ _ _ h => h) (Or.inl ⟨rfl, ?c2⟩) hH ?r2
  case c2 => (intro w' _; go_simp; (try with_reducible rfl))
  try simp only [Act.put, List.setIfInBounds_toArray, List.set_cons_zero, List.set_cons_succ]
  refine wpAnyH_take (i := 3) (oi := ⟨some 14, _, _, _, _, _⟩) (v := ?v3) rfl (by kernel_rfl) (by kernel_rfl) (by kernel_rfl) (fun _ _ _ h => h) (Or.inl ⟨rfl, ?c3⟩) hH ?r3
  case c3 => (intro w' _; go_simp; (try with_reducible rfl))
  try simp only [Act.put, List.setIfInBounds_toArray, List.set_cons_zero, List.set_cons_succ]
  refine wpAnyH_take (i := 4) (oi := ⟨some 15, _, _, _, _, _⟩) (v := ?v4) rfl (by kernel_rfl) (by kernel_rfl) (by kernel_rfl) (fun _ _ _ h => h) (Or.inl ⟨rfl, ?c4⟩) hH ?r4
  case c4 => (intro w' _; go_simp; (try with_reducible rfl))
  try simp only [Act.put, List.setIfInBounds_toArray, List.set_cons_zero, List.set_cons_succ]
  refine wpAnyH_take (i := 5) (oi := ⟨some 16, _, _, _, _, _⟩) (v := ?v5) rfl (by kernel_rfl) (by kernel_rfl) (by kernel_rfl) (fun _ _ _ h => h) (Or.inl ⟨rfl, ?c5⟩) hH ?r5
  case c5 => (intro w' hS; have y18 := (HV.out.next hS.out).y18; go_simp; (try with_reducible rfl))
  try simp only [Act.put, List.setIfInBounds_toArray, List.set_cons_zero, List.set_cons_succ]
  refine wpAnyH_ready (rs := [1]) (by kernel_rfl) (by simp) (AllReadyH.cons rfl (fun K hK => ?_) (AllReadyH.nil))
  go_simp
  go_at_call 20
  refine (gate_p (H1.out.next hH.out).a (H1.out.next hH.out).env).mono ?_
  rintro e w2 ⟨rfl, hbp⟩
  refine hK.out _ _ (Lib.hid (hH.out.trans (hbp.mono hH.out.size))) (fun hH => ?_)
  clear hK K
  clear hbp
  try simp only [Act.put, List.setIfInBounds_toArray, List.set_cons_zero, List.set_cons_succ]
  refine wpAnyH_ready (rs := [6]) (by kernel_rfl) (by simp) (AllReadyH.cons rfl (fun K hK => ?_) (AllReadyH.nil))
  go_simp
  go_at_call 32
  refine (HUP.out _).mono ?_
  rintro e w2 ⟨rfl, hbp⟩
  refine hK.out _ _ (Lib.hid (hH.out.trans (hbp.mono hH.out.size))) (fun hH => ?_)
  clear hK K
  clear hbp
  try simp only [Act.put, List.setIfInBounds_toArray, List.set_cons_zero, List.set_cons_succ]
  refine wpAnyH_take (i := 7) (oi := ⟨some 18, _, _, _, _, _⟩) (v := ?v6) rfl (by kernel_rfl) (by kernel_rfl) (by kernel_rfl) (fun _ _ _ h => h) (Or.inl ⟨rfl, ?c6⟩) hH ?r6
  case c6 => (intro w' hS; have EQ := HGA.out w'; go_simp; (try with_reducible rfl))
  try simp only [Act.put, List.setIfInBounds_toArray, List.set_cons_zero, List.set_cons_succ]
  refine wpAnyH_take (i := 8) (oi := ⟨some 19, _, _, _, _, _⟩) (v := ?v7) rfl (by kernel_rfl) (by kernel_rfl) (by kernel_rfl) (fun _ _ _ h => h) (Or.inl ⟨rfl, ?c7⟩) hH ?r7
  case c7 => (intro w' _; go_simp; (try with_reducible rfl))
  try simp only [Act.put, List.setIfInBounds_toArray, List.set_cons_zero, List.set_cons_succ]
  refine wpAnyH_take (i := 9) (oi := ⟨some 20, _, _, _, _, _⟩) (v := ?v8) rfl (by kernel_rfl) (by kernel_rfl) (by kernel_rfl) (fun _ _ _ h => h) (Or.inl ⟨rfl, ?c8⟩) hH ?r8
  case c8 => (intro w' _; go_simp; (try with_reducible rfl))
  try simp only [Act.put, List.setIfInBounds_toArray, List.set_cons_zero, List.set_cons_succ]
  refine wpAnyH_take (i := 10) (oi := ⟨some 21, _, _, _, _, _⟩) (v := ?v9) rfl (by kernel_rfl) (by kernel_rfl) (by kernel_rfl) (fun _ _ _ h => h) (Or.inl ⟨rfl, ?c9⟩) hH ?r9
  case c9 => (intro w' _; go_simp; (try with_reducible rfl))
  try simp only [Act.put, List.setIfInBounds_toArray, List.set_cons_zero, List.set_cons_succ]
  refine wpAnyH_take (i := 11) (oi := ⟨some 22, _, _, _, _, _⟩) (v := ?v10) rfl (by kernel_rfl) (by kernel_rfl) (by kernel_rfl) (fun _ _ _ h => h) (Or.inl ⟨rfl, ?c10⟩) hH ?r10
  case c10 => (intro w' _; go_simp; (try with_reducible rfl))
  try simp only [Act.put, List.setIfInBounds_toArray, List.set_cons_zero, List.set_cons_succ]
  refine wpAnyH_take (i := 12) (oi := ⟨some 23, _, _, _, _, _⟩) (v := ?v11) rfl (by kernel_rfl) (by kernel_rfl) (by kernel_rfl) (fun _ _ _ h => h) (Or.inl ⟨rfl, ?c11⟩) hH ?r11
  case c11 => (intro w' _; go_simp; (try with_reducible rfl))
  try simp only [Act.put, List.setIfInBounds_toArray, List.set_cons_zero, List.set_cons_succ]
  refine wpAnyH_take (i := 13) (oi := ⟨some 24, _, _, _, _, _⟩) (v := ?v12) rfl (by kernel_rfl) (by kernel_rfl) (by kernel_rfl) (fun _ _ _ h => h) (Or.inl ⟨rfl, ?c12⟩) hH ?r12
  case c12 => (intro w' _; go_simp; (try with_reducible rfl))
  try simp only [Act.put, List.setIfInBounds_toArray, List.set_cons_zero, List.set_cons_succ]
  refine wpAnyH_take (i := 14) (oi := ⟨some 25, _, _, _, _, _⟩) (v := ?v13) rfl (by kernel_rfl) (by kernel_rfl) (by kernel_rfl) (fun _ _ _ h => h) (Or.inl ⟨rfl, ?c13⟩) hH ?r13
  case c13 => (intro w' hS; have y20 := (HV.out.next hS.out).y20; go_simp; (try with_reducible rfl))
  try simp only [Act.put, List.setIfInBounds_toArray, List.set_cons_zero, List.set_cons_succ]
  refine wpAnyH_take (i := 15) (oi := ⟨some 26, _, _, _, _, _⟩) (v := ?v14) rfl (by kernel_rfl) (by kernel_rfl) (by kernel_rfl) (fun _ _ _ h => h) (Or.inl ⟨rfl, ?c14⟩) hH ?r14
  case c14 => (intro w' _; go_simp; (try with_reducible rfl))
  try simp only [Act.put, List.setIfInBounds_toArray, List.set_cons_zero, List.set_cons_succ]
  refine wpAnyH_take (i := 16) (oi := ⟨some 27, _, _, _, _, _⟩) (v := ?v15) rfl (by kernel_rfl) (by kernel_rfl) (by kernel_rfl) (fun _ _ _ h => h) (Or.inl ⟨rfl, ?c15⟩) hH ?r15
  case c15 => (intro w' _; go_simp; (try with_reducible rfl))
  try simp only [Act.put, List.setIfInBounds_toArray, List.set_cons_zero, List.set_cons_succ]
  refine wpAnyH_take (i := 17) (oi := ⟨some 28, _, _, _, _, _⟩) (v := ?v16) rfl (by kernel_rfl) (by kernel_rfl) (by kernel_rfl) (fun _ _ _ h => h) (Or.inl ⟨rfl, ?c16⟩) hH ?r16
  case c16 => (intro w' _; go_simp; (try with_reducible rfl))
  try simp only [Act.put, List.setIfInBounds_toArray, List.set_cons_zero, List.set_cons_succ]
  refine wpAnyH_done (by kernel_rfl) ?_ _
  have HB2 := hH
  have H2 := Lib.hid (H1.out.next hH.out)
  have HB12 := hH
  clear hH H1
  go_wp2_with fail
  go_loopw [6] (fun vi wr => ∃ i : Nat, vi = .int .i64 (i : Int) ∧ i ≤ n ∧ Hid (Below w2.heap.size w2 wr)) (fun vi _ => n - (RowKit.intOf vi).toNat)
  case atStart => exact ⟨0, rfl, Nat.zero_le _, Lib.hid (Below.refl _ _)⟩
  case round =>
    obtain ⟨i, rfl, hi, HB⟩ := hrel
    by_cases h1 : i < n
    · as_aux_lemma =>
        obtain ⟨f, hf⟩ : ∃ x, s.fs[i]? = some x := ⟨_, List.getElem?_eq_getElem (by rw [HN.out]; exact h1)⟩
        have HPQ := Lib.hid (H2.out.next HB.out)
        obtain ⟨gl, hp, hbl, hgl, h5⟩ := HKY.out (by rw [List.length_map, HN.out]; omega)
        subst hp
        have hfk : (s.fs.map (·.k))[i]? = some f.k := by rw [List.getElem?_map, hf]; rfl
        have HBW := Lib.hid (HB12.out.trans (HB.out.mono HB12.out.size))
        have HA5 := Lib.hid ((h5 i f.k hfk).next hgl HBW.out)
        have HGL : Hid (gl < wr.heap.size) := Nat.lt_of_lt_of_le hgl HBW.out.size
        obtain ⟨gf2, hA, hg2, h7⟩ := (HV.out.next HBW.out).fl i f hf
        subst hA
        have HV3 := Lib.hid (HV.out.next HBW.out)
        have HA7 := Lib.hid h7
        have HG2 := Lib.hid hg2
        have hfin : find f.k s.fs = some f := HI.out.oks.find_of (List.mem_of_getElem? hf)
        have HLK := Lib.hid (lk_some hfin)
        have HFIT := Lib.hid (HI.out.oks.ok f (List.mem_of_getElem? hf)).fit
        have HUF : Hid (∀ W, Calls Tryz.prog 33 #[.int .u64 (FloM.gI f.c f.n f.s)] W fun e w' => e = .returned (.agg (Fl.gtc f.s f.n f.c)) ∧ Below W.heap.size W w') := fun W => Fl.refUnpack_any HFIT.out W
        clear hf hbl hgl h5 hfk hg2 h7 hfin HKY
        obtain ⟨x0, x1, x2, x3, x4⟩ := HA5.out
        go_wp2_with fail
        clear x0 x1 x2 x3 x4
        go_at_call 11
        refine (look_p HPQ.out.a HPQ.out.env f.k).mono ?_
        rw [HLK.out]
        rintro e w4 ⟨rfl, hb⟩
        have HB4 := Lib.hid (below_then hb (below_box w4 (.cells (Fl.gtc f.s f.n f.c) 50)))
        have HF4 := Lib.hid (Blk.box w4 (Fl.gtc f.s f.n f.c) 50)
        clear hb
        go_wp2_with fail
        obtain ⟨gf, hgf⟩ : ∃ g, w4.heap.size = g := ⟨_, rfl⟩
        obtain ⟨w5, hw5⟩ : ∃ v, w4.alloc (.cells (Fl.gtc f.s f.n f.c) 50) = v := ⟨_, rfl⟩
        rw [hw5] at HB4 HF4
        rw [hgf] at HF4
        rw [hw5, hgf]
        clear hw5 hgf
        have HV5 := Lib.hid (HV3.out.next HB4.out)
        have HA75 := Lib.hid (HA7.out.next HG2.out HB4.out)
        have HA55 := Lib.hid (HA5.out.next HGL.out HB4.out)
        have HG5 : Hid (gl < w5.heap.size) := Nat.lt_of_lt_of_le HGL.out HB4.out.size
        have HG25 : Hid (gf2 < w5.heap.size) := Nat.lt_of_lt_of_le HG2.out HB4.out.size
        have EQ := Ky.ky_same f.k.a f.k.b f.k.p f.k.q f.k.r
        have EQ2 := fl_same f.s f.n f.c
        refine wp_region_held_drew (S := fun w' => Hid (Below w5.heap.size w5 w')) (by kernel_rfl) (Lib.hid (Below.refl _ w5).drew) (fun hH => ?_)
        refine wpAnyH_take (i := 0) (oi := ⟨some 44, _, _, _, _, _⟩) (v := ?v101) rfl (by kernel_rfl) (by kernel_rfl) (by kernel_rfl) (fun _ _ _ h => h) (Or.inl ⟨rfl, ?c101⟩) hH ?r101
        case c101 => (intro w' _; go_simp; (try with_reducible rfl))
        try simp only [Act.put, List.setIfInBounds_toArray, List.set_cons_zero, List.set_cons_succ]
        refine wpAnyH_take (i := 1) (oi := ⟨some 45, _, _, _, _, _⟩) (v := ?v102) rfl (by kernel_rfl) (by kernel_rfl) (by kernel_rfl) (fun _ _ _ h => h) (Or.inl ⟨rfl, ?c102⟩) hH ?r102
        case c102 => (intro w' _; go_simp; (try with_reducible rfl))
        try simp only [Act.put, List.setIfInBounds_toArray, List.set_cons_zero, List.set_cons_succ]
        refine wpAnyH_take (i := 2) (oi := ⟨some 46, _, _, _, _, _⟩) (v := ?v103) rfl (by kernel_rfl) (by kernel_rfl) (by kernel_rfl) (fun _ _ _ h => h) (Or.inl ⟨rfl, ?c103⟩) hH ?r103
        case c103 => (intro w' hS; have hv := h1; go_simp; (try with_reducible rfl))
        try simp only [Act.put, List.setIfInBounds_toArray, List.set_cons_zero, List.set_cons_succ]
        refine wpAnyH_take (i := 3) (oi := ⟨some 47, _, _, _, _, _⟩) (v := ?v104) rfl (by kernel_rfl) (by kernel_rfl) (by kernel_rfl) (fun _ _ _ h => h) (Or.inl ⟨rfl, ?c104⟩) hH ?r104
        case c104 => (intro w' hS; obtain ⟨x0, x1, x2, x3, x4⟩ := HA55.out.next HG5.out hS.out; go_simp; (try with_reducible rfl))
        try simp only [Act.put, List.setIfInBounds_toArray, List.set_cons_zero, List.set_cons_succ]
        refine wpAnyH_take (i := 4) (oi := ⟨some 48, _, _, _, _, _⟩) (v := ?v105) rfl (by kernel_rfl) (by kernel_rfl) (by kernel_rfl) (fun _ _ _ h => h) (Or.inl ⟨rfl, ?c105⟩) hH ?r105
        case c105 => (intro w' _; go_simp; (try with_reducible rfl))
        try simp only [Act.put, List.setIfInBounds_toArray, List.set_cons_zero, List.set_cons_succ]
        refine wpAnyH_take (i := 5) (oi := ⟨some 49, _, _, _, _, _⟩) (v := ?v106) rfl (by kernel_rfl) (by kernel_rfl) (by kernel_rfl) (fun _ _ _ h => h) (Or.inl ⟨rfl, ?c106⟩) hH ?r106
        case c106 => (intro w' _; go_simp; (try with_reducible rfl))
        try simp only [Act.put, List.setIfInBounds_toArray, List.set_cons_zero, List.set_cons_succ]
        refine wpAnyH_take (i := 6) (oi := ⟨some 50, _, _, _, _, _⟩) (v := ?v107) rfl (by kernel_rfl) (by kernel_rfl) (by kernel_rfl) (fun _ _ _ h => h) (Or.inl ⟨rfl, ?c107⟩) hH ?r107
        case c107 => (intro w' _; go_simp; (try with_reducible rfl))
        try simp only [Act.put, List.setIfInBounds_toArray, List.set_cons_zero, List.set_cons_succ]
        refine wpAnyH_take (i := 7) (oi := ⟨some 51, _, _, _, _, _⟩) (v := ?v108) rfl (by kernel_rfl) (by kernel_rfl) (by kernel_rfl) (fun _ _ _ h => h) (Or.inl ⟨rfl, ?c108⟩) hH ?r108
        case c108 => (intro w' hS; have y20 := (HV5.out.next hS.out).y20; go_simp; (try with_reducible rfl))
        try simp only [Act.put, List.setIfInBounds_toArray, List.set_cons_zero, List.set_cons_succ]
        refine wpAnyH_take (i := 8) (oi := ⟨some 52, _, _, _, _, _⟩) (v := ?v109) rfl (by kernel_rfl) (by kernel_rfl) (by kernel_rfl) (fun _ _ _ h => h) (Or.inl ⟨rfl, ?c109⟩) hH ?r109
        case c109 => (intro w' _; go_simp; (try with_reducible rfl))
        try simp only [Act.put, List.setIfInBounds_toArray, List.set_cons_zero, List.set_cons_succ]
        refine wpAnyH_take (i := 9) (oi := ⟨some 53, _, _, _, _, _⟩) (v := ?v110) rfl (by kernel_rfl) (by kernel_rfl) (by kernel_rfl) (fun _ _ _ h => h) (Or.inl ⟨rfl, ?c110⟩) hH ?r110
        case c110 => (intro w' hS; have hv := h1; go_simp; (try with_reducible rfl))
        try simp only [Act.put, List.setIfInBounds_toArray, List.set_cons_zero, List.set_cons_succ]
        refine wpAnyH_take (i := 10) (oi := ⟨some 54, _, _, _, _, _⟩) (v := ?v111) rfl (by kernel_rfl) (by kernel_rfl) (by kernel_rfl) (fun _ _ _ h => h) (Or.inl ⟨rfl, ?c111⟩) hH ?r111
        case c111 => (intro w' _; go_simp; (try with_reducible rfl))
        try simp only [Act.put, List.setIfInBounds_toArray, List.set_cons_zero, List.set_cons_succ]
        refine wpAnyH_take (i := 11) (oi := ⟨some 55, _, _, _, _, _⟩) (v := ?v112) rfl (by kernel_rfl) (by kernel_rfl) (by kernel_rfl) (fun _ _ _ h => h) (Or.inl ⟨rfl, ?c112⟩) hH ?r112
        case c112 => (intro w' hS; obtain ⟨x0, x1, x2, x3, x4, x5⟩ := HA75.out.next HG25.out hS.out; go_simp; (try with_reducible rfl))
        try simp only [Act.put, List.setIfInBounds_toArray, List.set_cons_zero, List.set_cons_succ]
        refine wpAnyH_take (i := 12) (oi := ⟨some 56, _, _, _, _, _⟩) (v := ?v113) rfl (by kernel_rfl) (by kernel_rfl) (by kernel_rfl) (fun _ _ _ h => h) (Or.inl ⟨rfl, ?c113⟩) hH ?r113
        case c113 => (intro w' hS; go_simp; (try with_reducible rfl))
        try simp only [Act.put, List.setIfInBounds_toArray, List.set_cons_zero, List.set_cons_succ]
        refine wpAnyH_take (i := 13) (oi := ⟨some 57, _, _, _, _, _⟩) (v := ?v114) rfl (by kernel_rfl) (by kernel_rfl) (by kernel_rfl) (fun _ _ _ h => h) (Or.inl ⟨rfl, ?c114⟩) hH ?r114
        case c114 => (intro w' _; go_simp; (try with_reducible rfl))
        try simp only [Act.put, List.setIfInBounds_toArray, List.set_cons_zero, List.set_cons_succ]
        refine wpAnyH_take (i := 14) (oi := ⟨some 58, _, _, _, _, _⟩) (v := ?v115) rfl (by kernel_rfl) (by kernel_rfl) (by kernel_rfl) (fun _ _ _ h => h) (Or.inl ⟨rfl, ?c115⟩) hH ?r115
        case c115 => (intro w' _; go_simp; (try with_reducible rfl))
        try simp only [Act.put, List.setIfInBounds_toArray, List.set_cons_zero, List.set_cons_succ]
        refine wpAnyH_take (i := 15) (oi := ⟨some 59, _, _, _, _, _⟩) (v := ?v116) rfl (by kernel_rfl) (by kernel_rfl) (by kernel_rfl) (fun _ _ _ h => h) (Or.inl ⟨rfl, ?c116⟩) hH ?r116
        case c116 => (intro w' _; go_simp; (try with_reducible rfl))
        try simp only [Act.put, List.setIfInBounds_toArray, List.set_cons_zero, List.set_cons_succ]
        refine wpAnyH_take (i := 16) (oi := ⟨some 60, _, _, _, _, _⟩) (v := ?v117) rfl (by kernel_rfl) (by kernel_rfl) (by kernel_rfl) (fun _ _ _ h => h) (Or.inl ⟨rfl, ?c117⟩) hH ?r117
        case c117 => (intro w' _; go_simp; (try with_reducible rfl))
        try simp only [Act.put, List.setIfInBounds_toArray, List.set_cons_zero, List.set_cons_succ]
        refine wpAnyH_take (i := 17) (oi := ⟨some 61, _, _, _, _, _⟩) (v := ?v118) rfl (by kernel_rfl) (by kernel_rfl) (by kernel_rfl) (fun _ _ _ h => h) (Or.inl ⟨rfl, ?c118⟩) hH ?r118
        case c118 => (intro w' _; go_simp; (try with_reducible rfl))
        try simp only [Act.put, List.setIfInBounds_toArray, List.set_cons_zero, List.set_cons_succ]
        refine wpAnyH_take (i := 18) (oi := ⟨some 62, _, _, _, _, _⟩) (v := ?v119) rfl (by kernel_rfl) (by kernel_rfl) (by kernel_rfl) (fun _ _ _ h => h) (Or.inl ⟨rfl, ?c119⟩) hH ?r119
        case c119 => (intro w' hS; obtain ⟨q0, q1, q2⟩ := Fl.gt_cells (HF4.out.next hS.out); go_simp; (try with_reducible rfl))
        try simp only [Act.put, List.setIfInBounds_toArray, List.set_cons_zero, List.set_cons_succ]
        refine wpAnyH_take (i := 19) (oi := ⟨some 63, _, _, _, _, _⟩) (v := ?v120) rfl (by kernel_rfl) (by kernel_rfl) (by kernel_rfl) (fun _ _ _ h => h) (Or.inl ⟨rfl, ?c120⟩) hH ?r120
        case c120 => (intro w' _; go_simp; (try with_reducible rfl))
        try simp only [Act.put, List.setIfInBounds_toArray, List.set_cons_zero, List.set_cons_succ]
        refine wpAnyH_take (i := 20) (oi := ⟨some 64, _, _, _, _, _⟩) (v := ?v121) rfl (by kernel_rfl) (by kernel_rfl) (by kernel_rfl) (fun _ _ _ h => h) (Or.inl ⟨rfl, ?c121⟩) hH ?r121
        case c121 => (intro w' _; go_simp; (try with_reducible rfl))
        try simp only [Act.put, List.setIfInBounds_toArray, List.set_cons_zero, List.set_cons_succ]
        refine wpAnyH_take (i := 21) (oi := ⟨some 65, _, _, _, _, _⟩) (v := ?v122) rfl (by kernel_rfl) (by kernel_rfl) (by kernel_rfl) (fun _ _ _ h => h) (Or.inl ⟨rfl, ?c122⟩) hH ?r122
        case c122 => (intro w' _; go_simp; (try with_reducible rfl))
        try simp only [Act.put, List.setIfInBounds_toArray, List.set_cons_zero, List.set_cons_succ]
        refine wpAnyH_take (i := 22) (oi := ⟨some 66, _, _, _, _, _⟩) (v := ?v123) rfl (by kernel_rfl) (by kernel_rfl) (by kernel_rfl) (fun _ _ _ h => h) (Or.inl ⟨rfl, ?c123⟩) hH ?r123
        case c123 => (intro w' hS; have y20 := (HV5.out.next hS.out).y20; go_simp; (try with_reducible rfl))
        try simp only [Act.put, List.setIfInBounds_toArray, List.set_cons_zero, List.set_cons_succ]
        refine wpAnyH_take (i := 23) (oi := ⟨some 67, _, _, _, _, _⟩) (v := ?v124) rfl (by kernel_rfl) (by kernel_rfl) (by kernel_rfl) (fun _ _ _ h => h) (Or.inl ⟨rfl, ?c124⟩) hH ?r124
        case c124 => (intro w' _; go_simp; (try with_reducible rfl))
        try simp only [Act.put, List.setIfInBounds_toArray, List.set_cons_zero, List.set_cons_succ]
        refine wpAnyH_take (i := 24) (oi := ⟨some 68, _, _, _, _, _⟩) (v := ?v125) rfl (by kernel_rfl) (by kernel_rfl) (by kernel_rfl) (fun _ _ _ h => h) (Or.inl ⟨rfl, ?c125⟩) hH ?r125
        case c125 => (intro w' hS; have hv := h1; go_simp; (try with_reducible rfl))
        try simp only [Act.put, List.setIfInBounds_toArray, List.set_cons_zero, List.set_cons_succ]
        refine wpAnyH_take (i := 25) (oi := ⟨some 69, _, _, _, _, _⟩) (v := ?v126) rfl (by kernel_rfl) (by kernel_rfl) (by kernel_rfl) (fun _ _ _ h => h) (Or.inl ⟨rfl, ?c126⟩) hH ?r126
        case c126 => (intro w' _; go_simp; (try with_reducible rfl))
        try simp only [Act.put, List.setIfInBounds_toArray, List.set_cons_zero, List.set_cons_succ]
        refine wpAnyH_take (i := 26) (oi := ⟨some 70, _, _, _, _, _⟩) (v := ?v127) rfl (by kernel_rfl) (by kernel_rfl) (by kernel_rfl) (fun _ _ _ h => h) (Or.inl ⟨rfl, ?c127⟩) hH ?r127
        case c127 => (intro w' hS; obtain ⟨x0, x1, x2, x3, x4, x5⟩ := HA75.out.next HG25.out hS.out; go_simp; (try with_reducible rfl))
        try simp only [Act.put, List.setIfInBounds_toArray, List.set_cons_zero, List.set_cons_succ]
        refine wpAnyH_ready (rs := [27]) (by kernel_rfl) (by simp) (AllReadyH.cons rfl (fun K hK => ?_) (AllReadyH.nil))
        go_simp
        go_at_call 33
        refine (HUF.out _).mono ?_
        rintro e w6 ⟨rfl, hbp⟩
        refine hK.out _ _ (Lib.hid (hH.out.trans (hbp.mono hH.out.size))) (fun hH => ?_)
        clear hK K
        clear hbp
        try simp only [Act.put, List.setIfInBounds_toArray, List.set_cons_zero, List.set_cons_succ]
        refine wpAnyH_take (i := 28) (oi := ⟨some 72, _, _, _, _, _⟩) (v := ?v128) rfl (by kernel_rfl) (by kernel_rfl) (by kernel_rfl) (fun _ _ _ h => h) (Or.inl ⟨rfl, ?c128⟩) hH ?r128
        case c128 => (intro w' hS; go_simp; (try with_reducible rfl))
        try simp only [Act.put, List.setIfInBounds_toArray, List.set_cons_zero, List.set_cons_succ]
        refine wpAnyH_take (i := 29) (oi := ⟨some 73, _, _, _, _, _⟩) (v := ?v129) rfl (by kernel_rfl) (by kernel_rfl) (by kernel_rfl) (fun _ _ _ h => h) (Or.inl ⟨rfl, ?c129⟩) hH ?r129
        case c129 => (intro w' _; go_simp; (try with_reducible rfl))
        try simp only [Act.put, List.setIfInBounds_toArray, List.set_cons_zero, List.set_cons_succ]
        refine wpAnyH_done (by kernel_rfl) ?_ _
        have HBE := Lib.hid (below_then HB.out (below_then HB4.out hH.out))
        clear hH
        go_wp2_with fail
        go_roundw
        case rel => exact ⟨i + 1, by go_num, by omega, HBE⟩
        case measure => simp [RowKit.intOf]; omega
    · obtain rfl : i = n := by omega
      go_wp2_with fail
      go_ret
      exact ⟨rfl, HB1.out.trans ((HB12.out.trans (HB.out.mono HB12.out.size)).mono HB1.out.size)⟩
end Au
end Go.Proofs.YtgcnhbjoalemlaaGreatDoor
