/- Several texts of this proof in one file, each in its own namespace. -/
import Derived.Test.YtcjppfggllbbeaaGreatDoorJ40
import Derived.Test.YtcjppfggllbbeaaGreatDoorJ43
import Derived.Test.YtcjppfggllbbeaaGreatDoorJ29
import Derived.Test.YtcjppfggllbbeaaGreatDoorJ9
/- Keys of a firewall: all flows' keys, in order. -/
set_option linter.unusedVariables false
set_option linter.unusedSimpArgs false
set_option maxRecDepth 100000
namespace Go.Proofs.YtcjppfggllbbeaaGreatDoor
open Go.ChangeShapes Go.WideShapes Go.ChangeAt Go.RowKit Go.Mtl Go.Lib
namespace Au
open AutM
open Go.Shelf
open Go.Sort hiding Below
/-- A slice that reads as these keys, in a block at or behind base. -/
def Kys (W : World) (base : Nat) (p : Option Addr) (ks : List Ke) : Prop := 0 < ks.length → ∃ g, p = some ⟨g, 0, none⟩ ∧ base ≤ g ∧ g < W.heap.size ∧ ∀ i k, ks[i]? = some k → At5 W g i k
theorem kcs_get (ks : List Ke) (i u : Nat) (k : Ke) (h : ks[i]? = some k) (hu : u < 5) : (kcs ks)[i * 5 + u]? = (k5 k)[u]? := by
  induction ks generalizing i with
  | nil => cases h
  | cons x ks ih =>
    have e : kcs (x :: ks) = k5 x ++ kcs ks := rfl
    rw [e]
    cases i with
    | zero =>
      obtain rfl : x = k := Option.some.inj h
      rw [Nat.zero_mul, Nat.zero_add, List.getElem?_append_left (by show u < 5; exact hu)]
    | succ i =>
      rw [List.getElem?_append_right (by show 5 ≤ (i + 1) * 5 + u; omega)]
      rw [show (i + 1) * 5 + u - (k5 x).length = i * 5 + u by show (i + 1) * 5 + u - 5 = i * 5 + u; omega]
      exact ih i h
theorem row_at {W : World} {g cap n : Nat} {cur : Array Value} {t : TypeId} {ks : List Ke} (hb : W.heap[g]? = some (.cells cur t (0, 0))) (ht : cur.toList.take (n * 5) = kcs ks) (hn : ks.length = n) (i u : Nat) (k : Ke) (h : ks[i]? = some k) (hu : u < 5) : W.cell? ⟨g, i * 5 + u, none⟩ = (k5 k)[u]? := by
  have hi : i < ks.length := (List.getElem?_eq_some_iff.1 h).1
  have h1 := kcs_get ks i u k h hu
  rw [← ht, List.getElem?_take_of_lt (by omega)] at h1
  rw [cell_of_row W g _ _ _ _ hb, ← h1]
  simp
theorem at5_of {W : World} {g i : Nat} {k : Ke} (h : ∀ u, u < 5 → W.cell? ⟨g, i * 5 + u, none⟩ = (k5 k)[u]?) : At5 W g i k :=
  ⟨h 0 (by omega), h 1 (by omega), h 2 (by omega), h 3 (by omega), h 4 (by omega)⟩
/-- What a row of the call's own gives. -/
theorem own_kys {W : World} {base n : Nat} {p : Option Addr} {c : Nat} {ks : List Ke} (h : W.ownsRow base 45 5 (.slice p n c) n (kcs ks)) (hn : ks.length = n) : Kys W base p ks := by
  intro hp
  rcases h.2 with ⟨_, h0⟩ | ⟨g, cap, cur, e, hbg, hb, _, _, _, ht⟩
  · omega
  · injection e with e1 _ _
    subst e1
    exact ⟨g, rfl, hbg, (Array.getElem?_eq_some_iff.1 hb).1, fun i k hk => at5_of fun u hu => row_at (cap := cap) hb ht hn i u k hk hu⟩
theorem lift_ok (ks : List Ke) (h : ∀ k ∈ ks, k.Ok) : ∃ d : List KO, d.map (·.1) = ks := by
  induction ks with
  | nil => exact ⟨[], rfl⟩
  | cons k ks ih =>
    obtain ⟨d, hd⟩ := ih fun x hx => h x (List.mem_cons_of_mem _ hx)
    exact ⟨⟨k, h k List.mem_cons_self⟩ :: d, by rw [List.map_cons, hd]⟩
theorem holds_own {W : World} {g cap n : Nat} {cur : Array Value} {t : TypeId} {d : List KO} (hb : W.heap[g]? = some (.cells cur t (0, 0))) (ht : cur.toList.take (n * 5) = kcs (d.map (·.1))) (hn : d.length = n) : HoldsK encK 5 W g 0 d.toArray := by
  intro q hq
  have hq2 : q < d.toArray.size * 5 := by simpa using hq
  have hq3 : q < d.length * 5 := by simpa using hq2
  have hi : q / 5 < d.length := by omega
  rw [get_flatK encK 5 d.toArray q hq2]
  refine ⟨?_, by simp [World.frozen?, hb]⟩
  have h1 : (d.map (·.1))[q / 5]? = some d[q / 5].1 := by rw [List.getElem?_map, List.getElem?_eq_getElem hi]; rfl
  have h2 := row_at (cap := cap) hb ht (by rw [List.length_map]; exact hn) (q / 5) (q % 5) _ h1 (by omega)
  rw [show q / 5 * 5 + q % 5 = q by omega] at h2
  rw [Nat.zero_add, h2]
  have e : d.toArray[q / 5]! = d[q / 5] := by simp [hi]
  rw [e]
  have hm : q % 5 < 5 := by omega
  obtain h | h | h | h | h : q % 5 = 0 ∨ q % 5 = 1 ∨ q % 5 = 2 ∨ q % 5 = 3 ∨ q % 5 = 4 := by omega
  all_goals rw [h]; rfl
theorem sorted_keys {fs : List Fl} {n : Nat} {d d' : Array KO} {ks : List Ke} (ho : Oks fs) (hk : ks.Perm (fs.map (·.k))) (hd : d.toList.map (·.1) = ks) (hp : d'.toList.Perm d.toList) (hs : SortedIn ltK 0 n d') (hn : d'.size = n) : d'.toList.map (·.1) = fs.map (·.k) := by
  refine keys_of_perm ho (((hp.map (·.1)).trans (by rw [hd])).trans hk) ?_
  rw [List.pairwise_map, List.pairwise_iff_getElem]
  intro i j hi hj hij
  have h := hs i j (Nat.zero_le _) hij (by rw [← hn]; simpa using hj)
  unfold ltK at h
  have hj2 : j < d'.size := by simpa using hj
  have hi2 : i < d'.size := by simpa using hi
  rw [getElem!_pos d' i hi2, getElem!_pos d' j hj2] at h
  simpa using h
set_option maxHeartbeats 2000000 in
theorem keys_any {w : World} {O : Nat → Prop} {B M : Nat} {N : Int} {T : Nat → Int} {s : St} (H : PAt w O B M N T s) :
    Calls Tryz.prog 20 #[ptr B] w fun e w' => ∃ p c, e = .returned (.slice p s.fs.length c) ∧ Kys w' w.heap.size p (s.fs.map (·.k)) ∧ Below w.heap.size w w' := by
  by_cases hf : s.fs.length ≤ 1
  · refine (keys_few H hf).mono ?_
    rintro e w' ⟨v, rfl, ho, hb⟩
    have hv : ∃ p c, v = .slice p s.fs.length c := by
      rcases ho.2 with ⟨rfl, h⟩ | ⟨g, cap, cur, rfl, _⟩
      · exact ⟨none, 0, by rw [h]⟩
      · exact ⟨_, _, rfl⟩
    obtain ⟨p, c, rfl⟩ := hv
    exact ⟨p, c, rfl, own_kys ho (by rw [List.length_map]), hb⟩
  obtain ⟨⟨li, H⟩, hi, _⟩ := H
  have H4 := H.at_ 19 (.map (some M)) rfl
  have HM := Lib.hid H.map
  have HI := Lib.hid hi.oks
  have hcnt : s.fs.length ≤ 4095 := by have h1 := hi.cnt; have h2 := hi.cap; have h3 := hi.cap1; omega
  have HC := Lib.hid hcnt
  have HF := Lib.hid hf
  clear H hi hcnt hf
  go_enter Tryz.func20, Tryz.ntmps20
  go_wp2_with fail
  go_at_call 46
  refine (maps_any M w).mono ?_
  rintro e w1 ⟨rfl, rfl⟩
  go_wp2_with fail
  go_at_call 45
  refine (collected (fs := s.fs) (Bm := w.heap.size) (M := M) ((Blk.box w #[.map (some M)] 74).cell 0 _ rfl) (HM.out.keep (Below.heap_alloc _ _ _ HM.out.lt)) (by have := HC.out; omega)).mono ?_
  rintro e w2 ⟨v, ks, rfl, hp, ho, hb⟩
  have hlen : ks.length = s.fs.length := by have := hp.length_eq; simpa using this
  have hb2 : Below w.heap.size w w2 := below_then (below_box w (.cells #[.map (some M)] 74)) hb
  obtain ⟨d, hd⟩ := lift_ok ks fun k hk => by
    obtain ⟨f, hf, rfl⟩ := List.mem_map.1 (hp.mem_iff.1 hk)
    exact (HI.out.ok f hf).k
  rcases ho.2 with ⟨_, h0⟩ | ⟨g, cap, cur, rfl, hbg, hgb, hle, hcm, hsz, ht⟩
  · exact absurd h0 (by rw [hlen]; have := HF.out; omega)
  obtain ⟨n, hn⟩ : ∃ n, n = ks.length := ⟨_, rfl⟩
  have hgl : g < w2.heap.size := (Array.getElem?_eq_some_iff.1 hgb).1
  rw [← hn] at ht ⊢
  have hdn : d.length = n := by rw [hn, ← hd, List.length_map]
  have HR : Hid (RowK g w2.heap.size (w2.alloc (.cells #[.slice (some ⟨g, 0, none⟩) n cap] 60)).heap.size n cap (w2.alloc (.cells #[.slice (some ⟨g, 0, none⟩) n cap] 60)) d.toArray) :=
    ⟨holds_own (cap := cap) ((heap_alloc_old w2 _ hgl).trans hgb) (by rw [hd]; exact ht) hdn, by simpa using hdn, (Blk.box w2 #[.slice (some ⟨g, 0, none⟩) n cap] 60).cell 0 _ rfl, Nat.le_refl _, by simp; omega, by simp⟩
  have HS := Lib.hid (sort_keys HR.out (by omega) (by rw [hn, hlen]; have := HF.out; omega) (by rw [hn, hlen]; have := HC.out; omega))
  have HFIN : Hid (∀ w4 (d' : Array KO), RowK g w2.heap.size (w2.alloc (.cells #[.slice (some ⟨g, 0, none⟩) n cap] 60)).heap.size n cap w4 d' → Bar g (w2.alloc (.cells #[.slice (some ⟨g, 0, none⟩) n cap] 60)) w4 → d'.toList.Perm d.toArray.toList → SortedIn ltK 0 n d' →
      n = s.fs.length ∧ Kys w4 w.heap.size (some ⟨g, 0, none⟩) (s.fs.map (·.k)) ∧ Below w.heap.size w w4) := by
    intro w4 d' hr hbar hper hsrt
    have hwg : w.heap.size ≤ g := Nat.le_trans (below_box w (.cells #[.map (some M)] 74)).size hbg
    have hks := sorted_keys HI.out hp (d := d.toArray) (by simpa using hd) hper hsrt hr.size
    refine ⟨hn.trans hlen, fun _ => ⟨g, rfl, hwg, by have := hr.le; have := hr.bm; omega, fun i k hk => ?_⟩, (below_then hb2 (below_box w2 _)).trans (So.Bar.to_below hbar hwg (below_then hb2 (below_box w2 _)).size)⟩
    rw [← hks, List.getElem?_map] at hk
    obtain ⟨x, hx, rfl⟩ := Option.map_eq_some_iff.1 hk
    have hi : i < d'.size := by have := (List.getElem?_eq_some_iff.1 hx).1; simpa using this
    have h5 := hr.at5 i (by rw [← hr.size]; exact hi)
    have e : d'[i]! = x := by
      rw [getElem!_pos d' i hi]
      have := (List.getElem?_eq_some_iff.1 hx).2
      simpa using this
    rw [e] at h5
    exact h5
  clear H4 HM hp ho hb hb2 hd hbg hgb hle hcm hsz ht hn hgl hdn HR hlen
  go_wp2_with fail
  go_at_call 47
  refine HS.out.mono ?_
  rintro e w4 ⟨rfl, d', hr, hbar, hper, hsrt⟩
  have hbx := hr.box
  obtain ⟨f1, f2, f3⟩ := HFIN.out w4 d' hr hbar hper hsrt
  have F1 := Lib.hid f1
  have F2 := Lib.hid f2
  have F3 := Lib.hid f3
  clear hr hbar hper hsrt f1 f2 f3 HFIN HS
  go_wp2_with fail
  go_ret
  refine ⟨some ⟨g, 0, none⟩, cap, ?_, F2.out, F3.out⟩
  rw [← F1.out]
  rfl
end Au
end Go.Proofs.YtcjppfggllbbeaaGreatDoor
/- Layer 18: the walk of AutoOnce. (Written by wip/tools/mkAulO.py.) -/
set_option linter.unusedVariables false
set_option linter.unusedSimpArgs false
set_option maxRecDepth 100000
namespace Go.Proofs.YtcjppfggllbbeaaGreatDoor
open Go.ChangeShapes Go.WideShapes Go.ChangeAt Go.RowKit Go.Mtl Go.Lib
namespace Au
open AutM
open RulM (R)
open MatM (K)
/-- The first i flows are gone. -/
def endS (s : St) (i : Nat) : St := { s with g := s.g - i, fs := s.fs.drop i }
theorem drop_head {fs : List Fl} (h : Oks fs) {i : Nat} {f : Fl} (hf : fs[i]? = some f) : find f.k (fs.drop i) = some f ∧ AutM.drop f.k (fs.drop i) = fs.drop (i + 1) := by
  have hi := (List.getElem?_eq_some_iff.1 hf).1
  have e : fs.drop i = f :: fs.drop (i + 1) := by
    rw [List.drop_eq_getElem_cons hi, (List.getElem?_eq_some_iff.1 hf).2]
  have ho : Oks (fs.drop i) := ⟨fun g hg => h.ok g (List.mem_of_mem_drop hg), h.srt.sublist (List.drop_sublist _ _)⟩
  have hm : f ∈ fs.drop i := by rw [e]; exact List.mem_cons_self
  refine ⟨ho.find_of hm, ?_⟩
  obtain ⟨xs, ys, e1, -, e2, -, hx, -⟩ := ho.split (ho.find_of hm)
  rw [e2]
  cases xs with
  | nil => rw [e] at e1; injection e1 with _ e1; rw [e1]; rfl
  | cons x xs => rw [e] at e1; injection e1 with e3 _; exact absurd (by rw [← e3]) (hx x List.mem_cons_self)
theorem end_step {N : Int} {s : St} (H : Inv N s) {i : Nat} {f : Fl} (hf : s.fs[i]? = some f) (ov : Bool) (hov : Fl.overB f.c f.n f.s s.c = ov) :
    lookV (endS s i) f.k = .tuple #[.agg (Fl.gtc f.s f.n f.c), .bool true] ∧ delB (endS s i) f.k = ov ∧ delB (delS (endS s i) f.k) f.k = false ∧ delS (delS (endS s i) f.k) f.k = delS (endS s i) f.k ∧
      (find f.k (delS (endS s i) f.k).fs).isSome = !ov ∧ dropS (delS (endS s i) f.k) f.k = endS s (i + 1) ∧ (find f.k (endS s (i + 1)).fs).isSome = false ∧ dropS (endS s (i + 1)) f.k = endS s (i + 1) := by
  obtain ⟨h1, h2⟩ := drop_head H.oks hf
  have hfd : find f.k (endS s i).fs = some f := h1
  have hD : dropS (endS s i) f.k = endS s (i + 1) := by
    unfold dropS
    rw [hfd]
    show { endS s i with g := (endS s i).g - 1, fs := AutM.drop f.k (s.fs.drop i) } = _
    rw [h2]
    unfold endS
    simp only [St.mk.injEq, true_and, and_true]
    omega
  have hN : find f.k (endS s (i + 1)).fs = none := by
    show find f.k (s.fs.drop (i + 1)) = none
    rw [← h2]
    exact find_drop _ _
  have hB : delB (endS s i) f.k = ov := by unfold delB; rw [hfd]; exact hov
  have hE : dropS (endS s (i + 1)) f.k = endS s (i + 1) := by unfold dropS; rw [hN]
  have hB2 : delB (endS s (i + 1)) f.k = false := by unfold delB; rw [hN]
  have hL : lookV (endS s i) f.k = .tuple #[.agg (Fl.gtc f.s f.n f.c), .bool true] := by unfold lookV; rw [hfd]
  cases ov with
  | true =>
    have hS : delS (endS s i) f.k = endS s (i + 1) := by unfold delS; rw [hB, if_pos rfl, hD]
    rw [hS]
    exact ⟨hL, hB, hB2, by unfold delS; rw [hB2]; rfl, by rw [hN]; rfl, hE, by rw [hN]; rfl, hE⟩
  | false =>
    have hS : delS (endS s i) f.k = endS s i := by unfold delS; rw [hB]; rfl
    rw [hS]
    exact ⟨hL, hB, hB, hS, by rw [hfd]; rfl, hD, by rw [hN]; rfl, hE⟩
/-- The keys that Keys handed back, in block g. -/
structure KyG (W : World) (g : Nat) (ks : List Ke) : Prop where
  lt : g < W.heap.size
  at_ : ∀ (i : Nat) (k : Ke), ks[i]? = some k → At5 W g i k
theorem At5.only {O : Nat → Prop} {W W' : World} {g i : Nat} {k : Ke} (h : At5 W g i k) (ho : Only O W W') (hg : g < W.heap.size) (hn : ¬ O g) : At5 W' g i k :=
  ⟨(ho.cell (p := ⟨g, i * 5, none⟩) hg hn).trans h.c0, (ho.cell (p := ⟨g, i * 5 + 1, none⟩) hg hn).trans h.c1, (ho.cell (p := ⟨g, i * 5 + 2, none⟩) hg hn).trans h.c2, (ho.cell (p := ⟨g, i * 5 + 3, none⟩) hg hn).trans h.c3, (ho.cell (p := ⟨g, i * 5 + 4, none⟩) hg hn).trans h.c4⟩
theorem KyG.only {O : Nat → Prop} {W W' : World} {g : Nat} {ks : List Ke} (h : KyG W g ks) (ho : Only O W W') (hn : ¬ O g) : KyG W' g ks := ⟨Nat.lt_of_lt_of_le h.lt ho.size, fun i k hk => (h.at_ i k hk).only ho h.lt hn⟩
theorem KyG.next {W W' : World} {g : Nat} {ks : List Ke} (h : KyG W g ks) (hb : Below W.heap.size W W') : KyG W' g ks := h.only (O := fun _ => False) (Only.of_below hb) (fun e => e)
/-- Where they lie. -/
theorem kys_g {O : Nat → Prop} {W W' : World} {p : Option Addr} {ks : List Ke} (h : Kys W' W.heap.size p ks) (ho : ∀ j, O j → j < W.heap.size) : ∃ g, 0 < ks.length → p = some ⟨g, 0, none⟩ ∧ ¬ O g ∧ KyG W' g ks := by
  by_cases hp : 0 < ks.length
  · obtain ⟨g, e, h1, h2, h3⟩ := h hp
    exact ⟨g, fun _ => ⟨e, fun hg => by have := ho g hg; omega, h2, h3⟩⟩
  · exact ⟨0, fun e => absurd e hp⟩
theorem over_is {f : Fl} (h : f.Ok) (c : Int) : Fl.overB f.c f.n f.s c = decide (f.c ≤ c ∨ f.n = 1048575) := by
  unfold Fl.overB
  have h1 := h.lo
  have h2 := h.hi
  exact decide_eq_decide.2 (by omega)
theorem less_next {fs : List Fl} (h : Oks fs) {i : Nat} {f1 f : Fl} (h1 : fs[i]? = some f1) (h2 : fs[i + 1]? = some f) : KeyM.lessB f1.k.a f1.k.b f1.k.p f1.k.q f1.k.r f.k.a f.k.b f.k.p f.k.q f.k.r = true := by
  have e := Ke.less_is (h.ok f1 (List.mem_of_getElem? h1)).k (h.ok f (List.mem_of_getElem? h2)).k
  unfold Ke.less at e
  rw [e]
  obtain ⟨l1, e1⟩ := List.getElem?_eq_some_iff.1 h1
  obtain ⟨l2, e2⟩ := List.getElem?_eq_some_iff.1 h2
  have := (List.pairwise_iff_getElem.1 h.srt) i (i + 1) l1 l2 (by omega)
  rw [e1, e2] at this
  exact decide_eq_true this
theorem field1_ (a b c : Value) (w : World) : (Instr.field 64 (.agg #[a, b, c]) 1).run Tryz.prog w = .ok b w := by kernel_rfl
theorem field2_ (a b c : Value) (w : World) : (Instr.field 64 (.agg #[a, b, c]) 2).run Tryz.prog w = .ok c w := by kernel_rfl
theorem Das.more {w : World} {B B' : Nat} {v : Value} {xs : List Dk} (h : Das w B v xs) (hB : B ≤ B') : Das w B' v xs := by
  obtain ⟨A, c, e, h1, h2, h3, h4⟩ := h
  refine ⟨A, c, e, h1, h2, fun hn => ?_, fun x hx => (h4 x hx).mono hB⟩
  obtain ⟨b, off, e2, hb, hc⟩ := h3 hn
  exact ⟨b, off, e2, by omega, hc⟩
theorem Am.under {w w1 W : World} {O : Nat → Prop} {B M : Nat} {N : Int} {T : Nat → Int} {s : St} (H : Am w1 O B M N T s W) (hb : Below w.heap.size w w1) : Am w O B M N T s W := ⟨H.fw, H.env, below_then hb H.bel, fun j hj => Nat.le_trans hb.size (H.new j hj)⟩
set_option maxHeartbeats 40000000 in
theorem autoOnce_walk (z N : Int) (T : Nat → Int) (A : Option Addr) (m c : Nat) (rs : List R) (Aa : Option Addr) (len cap : Nat) (xs : List Dk) (q : Int) (W : World) (he : Env W) (hcfg : (-9223372036854775808 ≤ z ∧ z ≤ 9223372036854775807) ∧ (-9223372036854775808 ≤ N ∧ N ≤ 9223372036854775807) ∧ ∀ i, -9223372036854775808 ≤ T i ∧ T i ≤ 9223372036854775807) (hr : Rds W W.heap.size (.slice A m c) rs ∧ ∀ r ∈ rs, r.Ok) (hx : xs.length = len ∧ Das W W.heap.size (.slice Aa len cap) xs ∧ ∀ x ∈ xs, x.Ok) (hq : 0 ≤ q ∧ q ≤ 65535) :
    Calls Tryz.prog 6 #[.agg (cfc z N T), .slice A m c, .slice Aa len cap, .int .u16 q] W fun e w' => e = .returned (.bool true) ∧ Below W.heap.size W w' := by
  obtain ⟨hz, -, htm⟩ := hcfg
  obtain ⟨hrd, hro⟩ := hr
  obtain ⟨hl, hd, hxo⟩ := hx
  have hm : rs.length = m := by obtain ⟨A', c', e, _⟩ := hrd; injection e with _ e2 _; exact e2.symm
  have HX0 := Lib.hid (Blk.box W (cfc z N T) 24)
  have hb0 := below_box W (.cells (cfc z N T) 24)
  have HB0 := Lib.hid hb0
  have hq1 : Hid (-9223372036854775808 ≤ q ∧ q ≤ 9223372036854775807) := ⟨by omega, by omega⟩
  obtain ⟨q0, q1⟩ := hq
  by_cases h0 : chkE z N (few rs) = 0
  · have HSO := Lib.hid (some_yes (W.alloc (.cells (cfc z N T) 24)) z N T A m c rs Aa len cap xs (he.below hb0) hz htm hm (hrd.below hb0) hro hl (Das.more (hd.below hb0) hb0.size) hxo h0)
    clear hrd hro hl hd hxo hz htm h0 he hb0 hm
    go_enter Tryz.func6, Tryz.ntmps6
    go_wp2_with (refine wpList_load_row rfl 24 (.tmp 4) rfl W.heap.size rfl _ (cfc z N T) _ _ HX0.out Tryz.underlying24 rfl (cfg_size z N T) ?_)
    go_at_call 17
    refine HSO.out.mono ?_
    rintro e w1 ⟨O, B, M, rfl, ham⟩
    have HA1 := Lib.hid (ham.under HB0.out)
    generalize runS N T (newS (few rs)) (xs.take 60) = s0 at HA1
    clear ham HSO
    go_wp2_with fail
    go_at_call 24
    refine (tick_any HA1.out.fw HA1.out.env q hq1.out).mono ?_
    rintro e w2 ⟨rfl, hp, ho⟩
    obtain ⟨s, hs⟩ : ∃ s, { s0 with c := Ga.later s0.c q } = s := ⟨_, rfl⟩
    rw [hs] at hp
    have HA2 := Lib.hid (HA1.out.same hp ho)
    clear hp ho hs HA1
    go_wp2_with fail
    go_at_call 20
    refine (keys_any HA2.out.fw).mono ?_
    rintro e w3 ⟨p, c3, rfl, hky, hb⟩
    obtain ⟨n, hn⟩ : ∃ n, s.fs.length = n := ⟨_, rfl⟩
    obtain ⟨g, hg⟩ := kys_g (O := O) hky HA2.out.fw.lt_
    have HKG : Hid (0 < n → p = some ⟨g, 0, none⟩ ∧ ¬ O g ∧ KyG w3 g (s.fs.map (·.k))) := fun h => hg (by rw [List.length_map, hn]; exact h)
    have HLN := Lib.hid hn
    have hn4 : n ≤ 4095 := by
      have h1 := HA2.out.fw.2.1.cnt
      have h2 := HA2.out.fw.2.1.cap
      have h3 := HA2.out.fw.2.1.cap1
      omega
    have HIN := Lib.hid HA2.out.fw.2.1
    have HOK := Lib.hid HIN.out.oks
    have HA3 : Hid (Am W O B M N T (endS s 0) w3) := by
      have e : endS s 0 = s := by unfold endS; simp
      rw [e]
      exact HA2.out.next hb
    rw [hn]
    clear hky hb hg HA2 hn
    go_wp2_with fail
    go_loopw [11] (fun vi wr => ∃ i : Nat, vi = .int .i64 (i : Int) ∧ i ≤ n ∧ Hid (Am W O B M N T (endS s i) wr) ∧ Hid (0 < n → KyG wr g (s.fs.map (·.k)))) (fun vi _ => n - (RowKit.intOf vi).toNat)
    case atStart => exact ⟨0, rfl, by omega, HA3, fun h => (HKG.out h).2.2⟩
    case round =>
      clear HA3
      obtain ⟨i, rfl, hi, HA, HKp⟩ := hrel
      by_cases hin : i < n
      · obtain ⟨f, hf⟩ : ∃ f, s.fs[i]? = some f := ⟨_, List.getElem?_eq_getElem (by rw [HLN.out]; exact hin)⟩
        obtain ⟨ep, hgn, -⟩ := HKG.out (by omega)
        subst ep
        have HGN := Lib.hid hgn
        have HK := Lib.hid (HKp.out (by omega))
        have hfo := HOK.out.ok f (List.mem_of_getElem? hf)
        have HKI : Hid ((s.fs.map (·.k))[i]? = some f.k) := by show _ = _; rw [List.getElem?_map, hf]; rfl
        have HLK : Hid (lookV (endS s i) f.k = .tuple #[.agg (Fl.gtc f.s f.n f.c), .bool true]) := by show _ = _; unfold lookV; rw [show find f.k (endS s i).fs = some f from (drop_head HOK.out hf).1]
        obtain ⟨fk_, f_c, f_n, f_s, f_d⟩ := f
        simp only at HKI HLK
        have HFI := Lib.hid hf
        have HFO := Lib.hid hfo
        have hs1 : 1 ≤ f_s ∧ f_s ≤ 9 := ⟨hfo.lo, hfo.hi⟩
        obtain ⟨hs1, hs9⟩ := hs1
        clear hf hfo hgn HKp HKG
        obtain ⟨x0, x1, x2, x3, x4⟩ := HK.out.at_ i _ HKI.out
        go_wp2_with fail
        clear x0 x1 x2 x3 x4
        go_at_call 15
        refine (look_p HA.out.fw HA.out.env fk_).mono ?_
        rw [HLK.out]
        rintro e w3 ⟨rfl, hb⟩
        have HA3 := Lib.hid (HA.out.next hb)
        have HK3 := Lib.hid (HK.out.next hb)
        clear hb HA HK
        go_wp2_with fail
        obtain ⟨gf, hgf⟩ : ∃ g, w3.heap.size = g := ⟨_, rfl⟩
        obtain ⟨w4, hw4⟩ : ∃ v, w3.alloc (.cells (Fl.gtc f_s f_n f_c) 50) = v := ⟨_, rfl⟩
        have HX4 : Hid (Blk w4 gf (Fl.gtc f_s f_n f_c) 50) := by show Blk _ _ _ _; rw [← hw4, ← hgf]; exact Blk.box _ _ _
        have HA4 : Hid (Am W O B M N T (endS s i) w4) := Lib.hid (by rw [← hw4]; exact HA3.out.next (below_box _ _))
        have HK4 : Hid (KyG w4 g (s.fs.map (·.k))) := Lib.hid (by rw [← hw4]; exact HK3.out.next (below_box _ _))
        rw [hw4, hgf]
        clear hw4 hgf HA3 HK3
        have HGC : Hid (Ga.gtc (endS s i).v (endS s i).g (endS s i).c = Ga.gtc s.v (s.g - i) s.c) := rfl
        have HFD : Hid (∀ w, (Instr.field 64 (.agg (Ga.gtc s.v (s.g - i) s.c)) 2).run Tryz.prog w = .ok (.int .i64 s.c) w) := field2_ _ _ _
        obtain ⟨sc, hsc⟩ : ∃ c, s.c = c := ⟨_, rfl⟩
        rw [hsc] at HGC HFD
        have HSC := Lib.hid hsc
        clear hsc
        have hcase : f_c ≤ sc ∨ (¬ f_c ≤ sc ∧ f_n = 1048575) ∨ (¬ f_c ≤ sc ∧ f_n ≠ 1048575) := by omega
        rcases hcase with hc | ⟨hc, hn⟩ | ⟨hc, hn⟩
        · as_aux_lemma =>
            have hov : Fl.overB f_c f_n f_s s.c = true := by
              have h := over_is HFO.out s.c
              simp only at h
              rw [h, HSC.out]
              exact decide_eq_true (by omega)
            have HE := Lib.hid (end_step HIN.out HFI.out true hov)
            clear hov
            refine wp_region_held_drew (S := fun w' => Blk w' gf (Fl.gtc f_s f_n f_c) 50 ∧ Hid (Am W O B M N T (endS s i) w') ∧ Hid (KyG w' g (s.fs.map (·.k)))) (by kernel_rfl) (⟨HX4.out.drew, Lib.hid (HA4.out.next (Below.refl _ _).drew), Lib.hid (HK4.out.next (Below.refl _ _).drew)⟩) (fun hH => ?_)
            refine wpAnyH_take (i := 0) (oi := ⟨some 45, _, _, _, _, _⟩) (v := ?v301) rfl (by kernel_rfl) (by kernel_rfl) (by kernel_rfl) (fun _ _ _ h => h) (Or.inl ⟨rfl, ?c301⟩) hH ?r301
            case c301 => (intro w' _; go_simp; (try with_reducible rfl))
            try simp only [Act.put, List.setIfInBounds_toArray, List.set_cons_zero, List.set_cons_succ]
            refine wpAnyH_take (i := 1) (oi := ⟨some 46, _, _, _, _, _⟩) (v := ?v302) rfl (by kernel_rfl) (by kernel_rfl) (by kernel_rfl) (fun _ _ _ h => h) (Or.inl ⟨rfl, ?c302⟩) hH ?r302
            case c302 => (intro w' hS; have z := hS.1.cell 2 _ rfl; go_simp; (try with_reducible rfl))
            try simp only [Act.put, List.setIfInBounds_toArray, List.set_cons_zero, List.set_cons_succ]
            refine wpAnyH_take (i := 2) (oi := ⟨some 47, _, _, _, _, _⟩) (v := ?v303) rfl (by kernel_rfl) (by kernel_rfl) (by kernel_rfl) (fun _ _ _ h => h) (Or.inl ⟨rfl, ?c303⟩) hH ?r303
            case c303 => (intro w' _; go_simp; (try with_reducible rfl))
            try simp only [Act.put, List.setIfInBounds_toArray, List.set_cons_zero, List.set_cons_succ]
            refine wpAnyH_ready (rs := [3]) (by kernel_rfl) (by simp) (AllReadyH.cons rfl (fun K hK => ?_) (AllReadyH.nil))
            go_simp
            go_at_call 22
            refine (gate_p hH.2.1.out.fw hH.2.1.out.env).mono ?_
            rw [HGC.out]
            rintro e w5 ⟨rfl, hb⟩
            refine hK.out _ _ (⟨hH.1.next hb, Lib.hid (hH.2.1.out.next hb), Lib.hid (hH.2.2.out.next hb)⟩) (fun hH => ?_)
            clear hK K
            clear hb
            try simp only [Act.put, List.setIfInBounds_toArray, List.set_cons_zero, List.set_cons_succ]
            refine wpAnyH_take (i := 4) (oi := ⟨some 49, _, _, _, _, _⟩) (v := ?v304) rfl (by kernel_rfl) (by kernel_rfl) (by kernel_rfl) (fun _ _ _ h => h) (Or.inl ⟨rfl, ?c304⟩) hH ?r304
            case c304 => (intro w' _; go_simp; rw [HFD.out w']; (try simp only [Result.andThen_ok]); (try with_reducible rfl))
            try simp only [Act.put, List.setIfInBounds_toArray, List.set_cons_zero, List.set_cons_succ]
            refine wpAnyH_take (i := 5) (oi := ⟨some 50, _, _, _, _, _⟩) (v := ?v305) rfl (by kernel_rfl) (by kernel_rfl) (by kernel_rfl) (fun _ _ _ h => h) (Or.inl ⟨rfl, ?c305⟩) hH ?r305
            case c305 => (intro w' _; go_simp; (try with_reducible rfl))
            try simp only [Act.put, List.setIfInBounds_toArray, List.set_cons_zero, List.set_cons_succ]
            refine wpAnyH_take (i := 6) (oi := ⟨some 51, _, _, _, _, _⟩) (v := ?v306) rfl (by kernel_rfl) (by kernel_rfl) (by kernel_rfl) (fun _ _ _ h => h) (Or.inl ⟨rfl, ?c306⟩) hH ?r306
            case c306 => (intro w' _; go_simp; (try with_reducible rfl))
            try simp only [Act.put, List.setIfInBounds_toArray, List.set_cons_zero, List.set_cons_succ]
            refine wpAnyH_take (i := 7) (oi := ⟨some 52, _, _, _, _, _⟩) (v := undef) rfl (by kernel_rfl) (by kernel_rfl) (by kernel_rfl) (fun _ _ _ h => h) (Or.inr ⟨rfl, rfl⟩) hH ?_
            try simp only [Act.put, List.setIfInBounds_toArray, List.set_cons_zero, List.set_cons_succ]
            refine wpAnyH_take (i := 8) (oi := ⟨some 53, _, _, _, _, _⟩) (v := undef) rfl (by kernel_rfl) (by kernel_rfl) (by kernel_rfl) (fun _ _ _ h => h) (Or.inr ⟨rfl, rfl⟩) hH ?_
            try simp only [Act.put, List.setIfInBounds_toArray, List.set_cons_zero, List.set_cons_succ]
            refine wpAnyH_take (i := 9) (oi := ⟨some 54, _, _, _, _, _⟩) (v := undef) rfl (by kernel_rfl) (by kernel_rfl) (by kernel_rfl) (fun _ _ _ h => h) (Or.inr ⟨rfl, rfl⟩) hH ?_
            try simp only [Act.put, List.setIfInBounds_toArray, List.set_cons_zero, List.set_cons_succ]
            refine wpAnyH_take (i := 10) (oi := ⟨some 55, _, _, _, _, _⟩) (v := ?v310) rfl (by kernel_rfl) (by kernel_rfl) (by kernel_rfl) (fun _ _ _ h => h) (Or.inl ⟨rfl, ?c310⟩) hH ?r310
            case c310 => (intro w' _; go_simp; (try with_reducible rfl))
            try simp only [Act.put, List.setIfInBounds_toArray, List.set_cons_zero, List.set_cons_succ]
            refine wpAnyH_take (i := 11) (oi := ⟨some 14, _, _, _, _, _⟩) (v := ?v311) rfl (by kernel_rfl) (by kernel_rfl) (by kernel_rfl) (fun _ _ _ h => h) (Or.inl ⟨rfl, ?c311⟩) hH ?r311
            case c311 => (intro w' _; go_simp; (try with_reducible rfl))
            try simp only [Act.put, List.setIfInBounds_toArray, List.set_cons_zero, List.set_cons_succ]
            refine wpAnyH_done (by kernel_rfl) ?_ _
            have HA5 := hH.2.1
            have HK5 := hH.2.2
            clear hH
            obtain ⟨x0, x1, x2, x3, x4⟩ := HK5.out.at_ i _ HKI.out
            go_wp2_with fail
            clear x0 x1 x2 x3 x4
            go_at_call 19
            refine (delete_p HA5.out.fw HA5.out.env fk_).mono ?_
            rw [HE.out.2.1]
            rintro e w6 ⟨rfl, hp, ho⟩
            have HA6 := Lib.hid (HA5.out.same hp ho)
            have HK6 := Lib.hid (HK5.out.only ho HGN.out)
            clear hp ho HA5 HK5
            obtain ⟨x0, x1, x2, x3, x4⟩ := HK6.out.at_ i _ HKI.out
            go_wp2_with fail
            clear x0 x1 x2 x3 x4
            go_at_call 19
            refine (delete_p HA6.out.fw HA6.out.env fk_).mono ?_
            rw [HE.out.2.2.1, HE.out.2.2.2.1]
            rintro e w7 ⟨rfl, hp, ho⟩
            have HA7 := Lib.hid (HA6.out.same hp ho)
            have HK7 := Lib.hid (HK6.out.only ho HGN.out)
            clear hp ho HA6 HK6
            obtain ⟨x0, x1, x2, x3, x4⟩ := HK7.out.at_ i _ HKI.out
            go_wp2_with fail
            clear x0 x1 x2 x3 x4
            go_at_call 25
            refine (drop_p HA7.out.fw HA7.out.env fk_).mono ?_
            rw [HE.out.2.2.2.2.1, HE.out.2.2.2.2.2.1]
            rintro e w8 ⟨rfl, hp, ho⟩
            have HA8 := Lib.hid (HA7.out.same hp ho)
            have HK8 := Lib.hid (HK7.out.only ho HGN.out)
            clear hp ho HA7 HK7
            obtain ⟨x0, x1, x2, x3, x4⟩ := HK8.out.at_ i _ HKI.out
            go_wp2_with fail
            clear x0 x1 x2 x3 x4
            go_at_call 25
            refine (drop_p HA8.out.fw HA8.out.env fk_).mono ?_
            rw [HE.out.2.2.2.2.2.2.1, HE.out.2.2.2.2.2.2.2]
            rintro e w9 ⟨rfl, hp, ho⟩
            have HA9 := Lib.hid (HA8.out.same hp ho)
            have HK9 := Lib.hid (HK8.out.only ho HGN.out)
            clear hp ho HA8 HK8
            go_wp2_with fail
            rcases Nat.eq_zero_or_pos i with hi0 | hi0
            · subst hi0
              refine wp_region_held_drew (S := fun w' => Hid (Am W O B M N T (endS s (0 + 1)) w') ∧ Hid (KyG w' g (s.fs.map (·.k)))) (by kernel_rfl) (⟨Lib.hid (HA9.out.next (Below.refl _ _).drew), Lib.hid (HK9.out.next (Below.refl _ _).drew)⟩) (fun hH => ?_)
              refine wpAnyH_take (i := 0) (oi := ⟨some 90, _, _, _, _, _⟩) (v := ?v101) rfl (by kernel_rfl) (by kernel_rfl) (by kernel_rfl) (fun _ _ _ h => h) (Or.inl ⟨rfl, ?c101⟩) hH ?r101
              case c101 => (intro w' _; go_simp; (try with_reducible rfl))
              try simp only [Act.put, List.setIfInBounds_toArray, List.set_cons_zero, List.set_cons_succ]
              refine wpAnyH_take (i := 1) (oi := ⟨some 91, _, _, _, _, _⟩) (v := ?v102) rfl (by kernel_rfl) (by kernel_rfl) (by kernel_rfl) (fun _ _ _ h => h) (Or.inl ⟨rfl, ?c102⟩) hH ?r102
              case c102 => (intro w' _; go_simp; (try with_reducible rfl))
              try simp only [Act.put, List.setIfInBounds_toArray, List.set_cons_zero, List.set_cons_succ]
              refine wpAnyH_take (i := 2) (oi := ⟨some 92, _, _, _, _, _⟩) (v := ?v103) rfl (by kernel_rfl) (by kernel_rfl) (by kernel_rfl) (fun _ _ _ h => h) (Or.inl ⟨rfl, ?c103⟩) hH ?r103
              case c103 => (intro w' _; go_simp; (try with_reducible rfl))
              try simp only [Act.put, List.setIfInBounds_toArray, List.set_cons_zero, List.set_cons_succ]
              refine wpAnyH_take (i := 3) (oi := ⟨some 93, _, _, _, _, _⟩) (v := undef) rfl (by kernel_rfl) (by kernel_rfl) (by kernel_rfl) (fun _ _ _ h => h) (Or.inr ⟨rfl, rfl⟩) hH ?_
              try simp only [Act.put, List.setIfInBounds_toArray, List.set_cons_zero, List.set_cons_succ]
              refine wpAnyH_take (i := 4) (oi := ⟨some 94, _, _, _, _, _⟩) (v := undef) rfl (by kernel_rfl) (by kernel_rfl) (by kernel_rfl) (fun _ _ _ h => h) (Or.inr ⟨rfl, rfl⟩) hH ?_
              try simp only [Act.put, List.setIfInBounds_toArray, List.set_cons_zero, List.set_cons_succ]
              refine wpAnyH_take (i := 5) (oi := ⟨some 95, _, _, _, _, _⟩) (v := undef) rfl (by kernel_rfl) (by kernel_rfl) (by kernel_rfl) (fun _ _ _ h => h) (Or.inr ⟨rfl, rfl⟩) hH ?_
              try simp only [Act.put, List.setIfInBounds_toArray, List.set_cons_zero, List.set_cons_succ]
              refine wpAnyH_take (i := 6) (oi := ⟨some 96, _, _, _, _, _⟩) (v := undef) rfl (by kernel_rfl) (by kernel_rfl) (by kernel_rfl) (fun _ _ _ h => h) (Or.inr ⟨rfl, rfl⟩) hH ?_
              try simp only [Act.put, List.setIfInBounds_toArray, List.set_cons_zero, List.set_cons_succ]
              refine wpAnyH_take (i := 7) (oi := ⟨some 97, _, _, _, _, _⟩) (v := undef) rfl (by kernel_rfl) (by kernel_rfl) (by kernel_rfl) (fun _ _ _ h => h) (Or.inr ⟨rfl, rfl⟩) hH ?_
              try simp only [Act.put, List.setIfInBounds_toArray, List.set_cons_zero, List.set_cons_succ]
              refine wpAnyH_take (i := 8) (oi := ⟨some 98, _, _, _, _, _⟩) (v := undef) rfl (by kernel_rfl) (by kernel_rfl) (by kernel_rfl) (fun _ _ _ h => h) (Or.inr ⟨rfl, rfl⟩) hH ?_
              try simp only [Act.put, List.setIfInBounds_toArray, List.set_cons_zero, List.set_cons_succ]
              refine wpAnyH_take (i := 9) (oi := ⟨some 99, _, _, _, _, _⟩) (v := undef) rfl (by kernel_rfl) (by kernel_rfl) (by kernel_rfl) (fun _ _ _ h => h) (Or.inr ⟨rfl, rfl⟩) hH ?_
              try simp only [Act.put, List.setIfInBounds_toArray, List.set_cons_zero, List.set_cons_succ]
              refine wpAnyH_take (i := 10) (oi := ⟨some 100, _, _, _, _, _⟩) (v := undef) rfl (by kernel_rfl) (by kernel_rfl) (by kernel_rfl) (fun _ _ _ h => h) (Or.inr ⟨rfl, rfl⟩) hH ?_
              try simp only [Act.put, List.setIfInBounds_toArray, List.set_cons_zero, List.set_cons_succ]
              refine wpAnyH_take (i := 11) (oi := ⟨some 101, _, _, _, _, _⟩) (v := undef) rfl (by kernel_rfl) (by kernel_rfl) (by kernel_rfl) (fun _ _ _ h => h) (Or.inr ⟨rfl, rfl⟩) hH ?_
              try simp only [Act.put, List.setIfInBounds_toArray, List.set_cons_zero, List.set_cons_succ]
              refine wpAnyH_take (i := 12) (oi := ⟨some 102, _, _, _, _, _⟩) (v := undef) rfl (by kernel_rfl) (by kernel_rfl) (by kernel_rfl) (fun _ _ _ h => h) (Or.inr ⟨rfl, rfl⟩) hH ?_
              try simp only [Act.put, List.setIfInBounds_toArray, List.set_cons_zero, List.set_cons_succ]
              refine wpAnyH_take (i := 13) (oi := ⟨some 103, _, _, _, _, _⟩) (v := undef) rfl (by kernel_rfl) (by kernel_rfl) (by kernel_rfl) (fun _ _ _ h => h) (Or.inr ⟨rfl, rfl⟩) hH ?_
              try simp only [Act.put, List.setIfInBounds_toArray, List.set_cons_zero, List.set_cons_succ]
              refine wpAnyH_take (i := 14) (oi := ⟨some 104, _, _, _, _, _⟩) (v := ?v115) rfl (by kernel_rfl) (by kernel_rfl) (by kernel_rfl) (fun _ _ _ h => h) (Or.inl ⟨rfl, ?c115⟩) hH ?r115
              case c115 => (intro w' _; go_simp; (try with_reducible rfl))
              try simp only [Act.put, List.setIfInBounds_toArray, List.set_cons_zero, List.set_cons_succ]
              refine wpAnyH_done (by kernel_rfl) ?_ _
              have HAR := hH.1
              have HKR := hH.2
              clear hH
              go_wp2_with fail
              go_roundw
              case rel => exact ⟨1, rfl, by omega, HAR, fun _ => HKR.out⟩
              case measure => simp [RowKit.intOf]; omega
            · obtain ⟨j, rfl⟩ : ∃ j, i = j + 1 := ⟨i - 1, by omega⟩
              obtain ⟨f1, hf1⟩ : ∃ f1, s.fs[j]? = some f1 := ⟨_, List.getElem?_eq_getElem (by have := (List.getElem?_eq_some_iff.1 HFI.out).1; omega)⟩
              have hless := less_next HOK.out hf1 HFI.out
              have hk1 := (HOK.out.ok f1 (List.mem_of_getElem? hf1)).k
              have hk2 := HFO.out.k
              have HLE : Hid (∀ W, Calls Tryz.prog 26 #[.agg (Ky.kyc f1.k.a f1.k.b f1.k.p f1.k.q f1.k.r), .agg (Ky.kyc fk_.a fk_.b fk_.p fk_.q fk_.r)] W fun e w' => e = .returned (.bool true) ∧ Below W.heap.size W w') :=
                fun W => Ky.refLess_any _ _ _ _ _ _ _ _ _ _ hk1.a hk1.b hk1.p hk1.q hk2.a hk2.b hk2.p hk2.q true hless W
              have HKJ : Hid ((s.fs.map (·.k))[j]? = some f1.k) := by show _ = _; rw [List.getElem?_map, hf1]; rfl
              have HJW : Hid (IntKind.i64.wrap (j : Int) = (j : Int)) := by show _ = _; rw [IntWalk.i64_in _ (by omega)]
              have hj1 : j + 1 < n := by omega
              have hj0 : j < n := by omega
              generalize f1.k = fk1 at *
              clear hless hk1 hk2 hf1
              refine wp_region_held_drew (S := fun w' => KyG w' g (s.fs.map (·.k)) ∧ Hid (Am W O B M N T (endS s (j + 1 + 1)) w')) (by kernel_rfl) (⟨HK9.out.next (Below.refl _ _).drew, Lib.hid (HA9.out.next (Below.refl _ _).drew)⟩) (fun hH => ?_)
              refine wpAnyH_take (i := 0) (oi := ⟨some 90, _, _, _, _, _⟩) (v := ?v201) rfl (by kernel_rfl) (by kernel_rfl) (by kernel_rfl) (fun _ _ _ h => h) (Or.inl ⟨rfl, ?c201⟩) hH ?r201
              case c201 => (intro w' _; go_simp; (try with_reducible rfl))
              try simp only [Act.put, List.setIfInBounds_toArray, List.set_cons_zero, List.set_cons_succ]
              refine wpAnyH_take (i := 1) (oi := ⟨some 91, _, _, _, _, _⟩) (v := ?v202) rfl (by kernel_rfl) (by kernel_rfl) (by kernel_rfl) (fun _ _ _ h => h) (Or.inl ⟨rfl, ?c202⟩) hH ?r202
              case c202 => (intro w' _; go_simp; (try with_reducible rfl))
              try simp only [Act.put, List.setIfInBounds_toArray, List.set_cons_zero, List.set_cons_succ]
              refine wpAnyH_take (i := 2) (oi := ⟨some 92, _, _, _, _, _⟩) (v := ?v203) rfl (by kernel_rfl) (by kernel_rfl) (by kernel_rfl) (fun _ _ _ h => h) (Or.inl ⟨rfl, ?c203⟩) hH ?r203
              case c203 => (intro w' _; go_simp; (try with_reducible rfl))
              try simp only [Act.put, List.setIfInBounds_toArray, List.set_cons_zero, List.set_cons_succ]
              refine wpAnyH_take (i := 3) (oi := ⟨some 93, _, _, _, _, _⟩) (v := ?v204) rfl (by kernel_rfl) (by kernel_rfl) (by kernel_rfl) (fun _ _ _ h => h) (Or.inl ⟨rfl, ?c204⟩) hH ?r204
              case c204 => (intro w' _; go_simp; (try with_reducible rfl))
              try simp only [Act.put, List.setIfInBounds_toArray, List.set_cons_zero, List.set_cons_succ]
              refine wpAnyH_take (i := 4) (oi := ⟨some 94, _, _, _, _, _⟩) (v := ?v205) rfl (by kernel_rfl) (by kernel_rfl) (by kernel_rfl) (fun _ _ _ h => h) (Or.inl ⟨rfl, ?c205⟩) hH ?r205
              case c205 => (intro w' _; go_simp; (try with_reducible rfl))
              try simp only [Act.put, List.setIfInBounds_toArray, List.set_cons_zero, List.set_cons_succ]
              refine wpAnyH_take (i := 5) (oi := ⟨some 95, _, _, _, _, _⟩) (v := ?v206) rfl (by kernel_rfl) (by kernel_rfl) (by kernel_rfl) (fun _ _ _ h => h) (Or.inl ⟨rfl, ?c206⟩) hH ?r206
              case c206 => (intro w' _; go_simp; rw [HJW.out])
              try simp only [Act.put, List.setIfInBounds_toArray, List.set_cons_zero, List.set_cons_succ]
              refine wpAnyH_take (i := 6) (oi := ⟨some 96, _, _, _, _, _⟩) (v := ?v207) rfl (by kernel_rfl) (by kernel_rfl) (by kernel_rfl) (fun _ _ _ h => h) (Or.inl ⟨rfl, ?c207⟩) hH ?r207
              case c207 => (intro w' _; go_simp; (try with_reducible rfl))
              try simp only [Act.put, List.setIfInBounds_toArray, List.set_cons_zero, List.set_cons_succ]
              refine wpAnyH_take (i := 7) (oi := ⟨some 97, _, _, _, _, _⟩) (v := ?v208) rfl (by kernel_rfl) (by kernel_rfl) (by kernel_rfl) (fun _ _ _ h => h) (Or.inl ⟨rfl, ?c208⟩) hH ?r208
              case c208 => (intro w' hS; obtain ⟨x0, x1, x2, x3, x4⟩ := hS.1.at_ j _ HKJ.out; go_simp; (try with_reducible rfl))
              try simp only [Act.put, List.setIfInBounds_toArray, List.set_cons_zero, List.set_cons_succ]
              refine wpAnyH_take (i := 8) (oi := ⟨some 98, _, _, _, _, _⟩) (v := ?v209) rfl (by kernel_rfl) (by kernel_rfl) (by kernel_rfl) (fun _ _ _ h => h) (Or.inl ⟨rfl, ?c209⟩) hH ?r209
              case c209 => (intro w' _; go_simp; (try with_reducible rfl))
              try simp only [Act.put, List.setIfInBounds_toArray, List.set_cons_zero, List.set_cons_succ]
              refine wpAnyH_take (i := 9) (oi := ⟨some 99, _, _, _, _, _⟩) (v := ?v210) rfl (by kernel_rfl) (by kernel_rfl) (by kernel_rfl) (fun _ _ _ h => h) (Or.inl ⟨rfl, ?c210⟩) hH ?r210
              case c210 => (intro w' _; go_simp; (try with_reducible rfl))
              try simp only [Act.put, List.setIfInBounds_toArray, List.set_cons_zero, List.set_cons_succ]
              refine wpAnyH_take (i := 10) (oi := ⟨some 100, _, _, _, _, _⟩) (v := ?v211) rfl (by kernel_rfl) (by kernel_rfl) (by kernel_rfl) (fun _ _ _ h => h) (Or.inl ⟨rfl, ?c211⟩) hH ?r211
              case c211 => (intro w' _; go_simp; rw [if_pos (by omega)])
              try simp only [Act.put, List.setIfInBounds_toArray, List.set_cons_zero, List.set_cons_succ]
              refine wpAnyH_take (i := 11) (oi := ⟨some 101, _, _, _, _, _⟩) (v := ?v212) rfl (by kernel_rfl) (by kernel_rfl) (by kernel_rfl) (fun _ _ _ h => h) (Or.inl ⟨rfl, ?c212⟩) hH ?r212
              case c212 => (intro w' hS; obtain ⟨x0, x1, x2, x3, x4⟩ := hS.1.at_ (j + 1) _ HKI.out; go_simp; (try with_reducible rfl))
              try simp only [Act.put, List.setIfInBounds_toArray, List.set_cons_zero, List.set_cons_succ]
              refine wpAnyH_ready (rs := [12]) (by kernel_rfl) (by simp) (AllReadyH.cons rfl (fun K hK => ?_) (AllReadyH.nil))
              go_simp
              go_at_call 26
              refine (HLE.out _).mono ?_
              rintro e w10 ⟨rfl, hb⟩
              refine hK.out _ _ (⟨hH.1.next hb, Lib.hid (hH.2.out.next hb)⟩) (fun hH => ?_)
              clear hK K
              clear hb
              try simp only [Act.put, List.setIfInBounds_toArray, List.set_cons_zero, List.set_cons_succ]
              refine wpAnyH_take (i := 13) (oi := ⟨some 103, _, _, _, _, _⟩) (v := ?v213) rfl (by kernel_rfl) (by kernel_rfl) (by kernel_rfl) (fun _ _ _ h => h) (Or.inl ⟨rfl, ?c213⟩) hH ?r213
              case c213 => (intro w' _; go_simp; (try with_reducible rfl))
              try simp only [Act.put, List.setIfInBounds_toArray, List.set_cons_zero, List.set_cons_succ]
              refine wpAnyH_take (i := 14) (oi := ⟨some 104, _, _, _, _, _⟩) (v := ?v214) rfl (by kernel_rfl) (by kernel_rfl) (by kernel_rfl) (fun _ _ _ h => h) (Or.inl ⟨rfl, ?c214⟩) hH ?r214
              case c214 => (intro w' _; go_simp; (try with_reducible rfl))
              try simp only [Act.put, List.setIfInBounds_toArray, List.set_cons_zero, List.set_cons_succ]
              refine wpAnyH_done (by kernel_rfl) ?_ _
              have HAR := hH.2
              have HKR := Lib.hid hH.1
              clear hH
              go_wp2_with fail
              go_roundw
              case rel => exact ⟨j + 1 + 1, by go_num, by omega, HAR, fun _ => HKR.out⟩
              case measure => simp [RowKit.intOf]; omega
        · as_aux_lemma =>
            have hov : Fl.overB f_c f_n f_s s.c = true := by
              have h := over_is HFO.out s.c
              simp only at h
              rw [h, HSC.out]
              exact decide_eq_true (by omega)
            have HE := Lib.hid (end_step HIN.out HFI.out true hov)
            have dn : (f_n == 1048575) = true := by simpa using hn
            clear hov hn
            refine wp_region_held_drew (S := fun w' => Blk w' gf (Fl.gtc f_s f_n f_c) 50 ∧ Hid (Am W O B M N T (endS s i) w') ∧ Hid (KyG w' g (s.fs.map (·.k)))) (by kernel_rfl) (⟨HX4.out.drew, Lib.hid (HA4.out.next (Below.refl _ _).drew), Lib.hid (HK4.out.next (Below.refl _ _).drew)⟩) (fun hH => ?_)
            refine wpAnyH_take (i := 0) (oi := ⟨some 45, _, _, _, _, _⟩) (v := ?v601) rfl (by kernel_rfl) (by kernel_rfl) (by kernel_rfl) (fun _ _ _ h => h) (Or.inl ⟨rfl, ?c601⟩) hH ?r601
            case c601 => (intro w' _; go_simp; (try with_reducible rfl))
            try simp only [Act.put, List.setIfInBounds_toArray, List.set_cons_zero, List.set_cons_succ]
            refine wpAnyH_take (i := 1) (oi := ⟨some 46, _, _, _, _, _⟩) (v := ?v602) rfl (by kernel_rfl) (by kernel_rfl) (by kernel_rfl) (fun _ _ _ h => h) (Or.inl ⟨rfl, ?c602⟩) hH ?r602
            case c602 => (intro w' hS; have z := hS.1.cell 2 _ rfl; go_simp; (try with_reducible rfl))
            try simp only [Act.put, List.setIfInBounds_toArray, List.set_cons_zero, List.set_cons_succ]
            refine wpAnyH_take (i := 2) (oi := ⟨some 47, _, _, _, _, _⟩) (v := ?v603) rfl (by kernel_rfl) (by kernel_rfl) (by kernel_rfl) (fun _ _ _ h => h) (Or.inl ⟨rfl, ?c603⟩) hH ?r603
            case c603 => (intro w' _; go_simp; (try with_reducible rfl))
            try simp only [Act.put, List.setIfInBounds_toArray, List.set_cons_zero, List.set_cons_succ]
            refine wpAnyH_ready (rs := [3]) (by kernel_rfl) (by simp) (AllReadyH.cons rfl (fun K hK => ?_) (AllReadyH.nil))
            go_simp
            go_at_call 22
            refine (gate_p hH.2.1.out.fw hH.2.1.out.env).mono ?_
            rw [HGC.out]
            rintro e w5 ⟨rfl, hb⟩
            refine hK.out _ _ (⟨hH.1.next hb, Lib.hid (hH.2.1.out.next hb), Lib.hid (hH.2.2.out.next hb)⟩) (fun hH => ?_)
            clear hK K
            clear hb
            try simp only [Act.put, List.setIfInBounds_toArray, List.set_cons_zero, List.set_cons_succ]
            refine wpAnyH_take (i := 4) (oi := ⟨some 49, _, _, _, _, _⟩) (v := ?v604) rfl (by kernel_rfl) (by kernel_rfl) (by kernel_rfl) (fun _ _ _ h => h) (Or.inl ⟨rfl, ?c604⟩) hH ?r604
            case c604 => (intro w' _; go_simp; rw [HFD.out w']; (try simp only [Result.andThen_ok]); (try with_reducible rfl))
            try simp only [Act.put, List.setIfInBounds_toArray, List.set_cons_zero, List.set_cons_succ]
            refine wpAnyH_take (i := 5) (oi := ⟨some 50, _, _, _, _, _⟩) (v := ?v605) rfl (by kernel_rfl) (by kernel_rfl) (by kernel_rfl) (fun _ _ _ h => h) (Or.inl ⟨rfl, ?c605⟩) hH ?r605
            case c605 => (intro w' _; go_simp; (try with_reducible rfl))
            try simp only [Act.put, List.setIfInBounds_toArray, List.set_cons_zero, List.set_cons_succ]
            refine wpAnyH_take (i := 6) (oi := ⟨some 51, _, _, _, _, _⟩) (v := ?v606) rfl (by kernel_rfl) (by kernel_rfl) (by kernel_rfl) (fun _ _ _ h => h) (Or.inl ⟨rfl, ?c606⟩) hH ?r606
            case c606 => (intro w' _; go_simp; (try with_reducible rfl))
            try simp only [Act.put, List.setIfInBounds_toArray, List.set_cons_zero, List.set_cons_succ]
            refine wpAnyH_take (i := 7) (oi := ⟨some 52, _, _, _, _, _⟩) (v := ?v607) rfl (by kernel_rfl) (by kernel_rfl) (by kernel_rfl) (fun _ _ _ h => h) (Or.inl ⟨rfl, ?c607⟩) hH ?r607
            case c607 => (intro w' _; go_simp; (try with_reducible rfl))
            try simp only [Act.put, List.setIfInBounds_toArray, List.set_cons_zero, List.set_cons_succ]
            refine wpAnyH_take (i := 8) (oi := ⟨some 53, _, _, _, _, _⟩) (v := ?v608) rfl (by kernel_rfl) (by kernel_rfl) (by kernel_rfl) (fun _ _ _ h => h) (Or.inl ⟨rfl, ?c608⟩) hH ?r608
            case c608 => (intro w' hS; have z := hS.1.cell 1 _ rfl; go_simp; (try with_reducible rfl))
            try simp only [Act.put, List.setIfInBounds_toArray, List.set_cons_zero, List.set_cons_succ]
            refine wpAnyH_take (i := 9) (oi := ⟨some 54, _, _, _, _, _⟩) (v := ?v609) rfl (by kernel_rfl) (by kernel_rfl) (by kernel_rfl) (fun _ _ _ h => h) (Or.inl ⟨rfl, ?c609⟩) hH ?r609
            case c609 => (intro w' _; go_simp; (try with_reducible rfl))
            try simp only [Act.put, List.setIfInBounds_toArray, List.set_cons_zero, List.set_cons_succ]
            refine wpAnyH_take (i := 10) (oi := ⟨some 55, _, _, _, _, _⟩) (v := ?v610) rfl (by kernel_rfl) (by kernel_rfl) (by kernel_rfl) (fun _ _ _ h => h) (Or.inl ⟨rfl, ?c610⟩) hH ?r610
            case c610 => (intro w' _; go_simp; (try with_reducible rfl))
            try simp only [Act.put, List.setIfInBounds_toArray, List.set_cons_zero, List.set_cons_succ]
            refine wpAnyH_take (i := 11) (oi := ⟨some 14, _, _, _, _, _⟩) (v := ?v611) rfl (by kernel_rfl) (by kernel_rfl) (by kernel_rfl) (fun _ _ _ h => h) (Or.inl ⟨rfl, ?c611⟩) hH ?r611
            case c611 => (intro w' _; go_simp; (try with_reducible rfl))
            try simp only [Act.put, List.setIfInBounds_toArray, List.set_cons_zero, List.set_cons_succ]
            refine wpAnyH_done (by kernel_rfl) ?_ _
            have HA5 := hH.2.1
            have HK5 := hH.2.2
            clear hH
            obtain ⟨x0, x1, x2, x3, x4⟩ := HK5.out.at_ i _ HKI.out
            go_wp2_with fail
            clear x0 x1 x2 x3 x4
            go_at_call 19
            refine (delete_p HA5.out.fw HA5.out.env fk_).mono ?_
            rw [HE.out.2.1]
            rintro e w6 ⟨rfl, hp, ho⟩
            have HA6 := Lib.hid (HA5.out.same hp ho)
            have HK6 := Lib.hid (HK5.out.only ho HGN.out)
            clear hp ho HA5 HK5
            obtain ⟨x0, x1, x2, x3, x4⟩ := HK6.out.at_ i _ HKI.out
            go_wp2_with fail
            clear x0 x1 x2 x3 x4
            go_at_call 19
            refine (delete_p HA6.out.fw HA6.out.env fk_).mono ?_
            rw [HE.out.2.2.1, HE.out.2.2.2.1]
            rintro e w7 ⟨rfl, hp, ho⟩
            have HA7 := Lib.hid (HA6.out.same hp ho)
            have HK7 := Lib.hid (HK6.out.only ho HGN.out)
            clear hp ho HA6 HK6
            obtain ⟨x0, x1, x2, x3, x4⟩ := HK7.out.at_ i _ HKI.out
            go_wp2_with fail
            clear x0 x1 x2 x3 x4
            go_at_call 25
            refine (drop_p HA7.out.fw HA7.out.env fk_).mono ?_
            rw [HE.out.2.2.2.2.1, HE.out.2.2.2.2.2.1]
            rintro e w8 ⟨rfl, hp, ho⟩
            have HA8 := Lib.hid (HA7.out.same hp ho)
            have HK8 := Lib.hid (HK7.out.only ho HGN.out)
            clear hp ho HA7 HK7
            obtain ⟨x0, x1, x2, x3, x4⟩ := HK8.out.at_ i _ HKI.out
            go_wp2_with fail
            clear x0 x1 x2 x3 x4
            go_at_call 25
            refine (drop_p HA8.out.fw HA8.out.env fk_).mono ?_
            rw [HE.out.2.2.2.2.2.2.1, HE.out.2.2.2.2.2.2.2]
            rintro e w9 ⟨rfl, hp, ho⟩
            have HA9 := Lib.hid (HA8.out.same hp ho)
            have HK9 := Lib.hid (HK8.out.only ho HGN.out)
            clear hp ho HA8 HK8
            go_wp2_with fail
            rcases Nat.eq_zero_or_pos i with hi0 | hi0
            · subst hi0
              refine wp_region_held_drew (S := fun w' => Hid (Am W O B M N T (endS s (0 + 1)) w') ∧ Hid (KyG w' g (s.fs.map (·.k)))) (by kernel_rfl) (⟨Lib.hid (HA9.out.next (Below.refl _ _).drew), Lib.hid (HK9.out.next (Below.refl _ _).drew)⟩) (fun hH => ?_)
              refine wpAnyH_take (i := 0) (oi := ⟨some 90, _, _, _, _, _⟩) (v := ?v401) rfl (by kernel_rfl) (by kernel_rfl) (by kernel_rfl) (fun _ _ _ h => h) (Or.inl ⟨rfl, ?c401⟩) hH ?r401
              case c401 => (intro w' _; go_simp; (try with_reducible rfl))
              try simp only [Act.put, List.setIfInBounds_toArray, List.set_cons_zero, List.set_cons_succ]
              refine wpAnyH_take (i := 1) (oi := ⟨some 91, _, _, _, _, _⟩) (v := ?v402) rfl (by kernel_rfl) (by kernel_rfl) (by kernel_rfl) (fun _ _ _ h => h) (Or.inl ⟨rfl, ?c402⟩) hH ?r402
              case c402 => (intro w' _; go_simp; (try with_reducible rfl))
              try simp only [Act.put, List.setIfInBounds_toArray, List.set_cons_zero, List.set_cons_succ]
              refine wpAnyH_take (i := 2) (oi := ⟨some 92, _, _, _, _, _⟩) (v := ?v403) rfl (by kernel_rfl) (by kernel_rfl) (by kernel_rfl) (fun _ _ _ h => h) (Or.inl ⟨rfl, ?c403⟩) hH ?r403
              case c403 => (intro w' _; go_simp; (try with_reducible rfl))
              try simp only [Act.put, List.setIfInBounds_toArray, List.set_cons_zero, List.set_cons_succ]
              refine wpAnyH_take (i := 3) (oi := ⟨some 93, _, _, _, _, _⟩) (v := undef) rfl (by kernel_rfl) (by kernel_rfl) (by kernel_rfl) (fun _ _ _ h => h) (Or.inr ⟨rfl, rfl⟩) hH ?_
              try simp only [Act.put, List.setIfInBounds_toArray, List.set_cons_zero, List.set_cons_succ]
              refine wpAnyH_take (i := 4) (oi := ⟨some 94, _, _, _, _, _⟩) (v := undef) rfl (by kernel_rfl) (by kernel_rfl) (by kernel_rfl) (fun _ _ _ h => h) (Or.inr ⟨rfl, rfl⟩) hH ?_
              try simp only [Act.put, List.setIfInBounds_toArray, List.set_cons_zero, List.set_cons_succ]
              refine wpAnyH_take (i := 5) (oi := ⟨some 95, _, _, _, _, _⟩) (v := undef) rfl (by kernel_rfl) (by kernel_rfl) (by kernel_rfl) (fun _ _ _ h => h) (Or.inr ⟨rfl, rfl⟩) hH ?_
              try simp only [Act.put, List.setIfInBounds_toArray, List.set_cons_zero, List.set_cons_succ]
              refine wpAnyH_take (i := 6) (oi := ⟨some 96, _, _, _, _, _⟩) (v := undef) rfl (by kernel_rfl) (by kernel_rfl) (by kernel_rfl) (fun _ _ _ h => h) (Or.inr ⟨rfl, rfl⟩) hH ?_
              try simp only [Act.put, List.setIfInBounds_toArray, List.set_cons_zero, List.set_cons_succ]
              refine wpAnyH_take (i := 7) (oi := ⟨some 97, _, _, _, _, _⟩) (v := undef) rfl (by kernel_rfl) (by kernel_rfl) (by kernel_rfl) (fun _ _ _ h => h) (Or.inr ⟨rfl, rfl⟩) hH ?_
              try simp only [Act.put, List.setIfInBounds_toArray, List.set_cons_zero, List.set_cons_succ]
              refine wpAnyH_take (i := 8) (oi := ⟨some 98, _, _, _, _, _⟩) (v := undef) rfl (by kernel_rfl) (by kernel_rfl) (by kernel_rfl) (fun _ _ _ h => h) (Or.inr ⟨rfl, rfl⟩) hH ?_
              try simp only [Act.put, List.setIfInBounds_toArray, List.set_cons_zero, List.set_cons_succ]
              refine wpAnyH_take (i := 9) (oi := ⟨some 99, _, _, _, _, _⟩) (v := undef) rfl (by kernel_rfl) (by kernel_rfl) (by kernel_rfl) (fun _ _ _ h => h) (Or.inr ⟨rfl, rfl⟩) hH ?_
              try simp only [Act.put, List.setIfInBounds_toArray, List.set_cons_zero, List.set_cons_succ]
              refine wpAnyH_take (i := 10) (oi := ⟨some 100, _, _, _, _, _⟩) (v := undef) rfl (by kernel_rfl) (by kernel_rfl) (by kernel_rfl) (fun _ _ _ h => h) (Or.inr ⟨rfl, rfl⟩) hH ?_
              try simp only [Act.put, List.setIfInBounds_toArray, List.set_cons_zero, List.set_cons_succ]
              refine wpAnyH_take (i := 11) (oi := ⟨some 101, _, _, _, _, _⟩) (v := undef) rfl (by kernel_rfl) (by kernel_rfl) (by kernel_rfl) (fun _ _ _ h => h) (Or.inr ⟨rfl, rfl⟩) hH ?_
              try simp only [Act.put, List.setIfInBounds_toArray, List.set_cons_zero, List.set_cons_succ]
              refine wpAnyH_take (i := 12) (oi := ⟨some 102, _, _, _, _, _⟩) (v := undef) rfl (by kernel_rfl) (by kernel_rfl) (by kernel_rfl) (fun _ _ _ h => h) (Or.inr ⟨rfl, rfl⟩) hH ?_
              try simp only [Act.put, List.setIfInBounds_toArray, List.set_cons_zero, List.set_cons_succ]
              refine wpAnyH_take (i := 13) (oi := ⟨some 103, _, _, _, _, _⟩) (v := undef) rfl (by kernel_rfl) (by kernel_rfl) (by kernel_rfl) (fun _ _ _ h => h) (Or.inr ⟨rfl, rfl⟩) hH ?_
              try simp only [Act.put, List.setIfInBounds_toArray, List.set_cons_zero, List.set_cons_succ]
              refine wpAnyH_take (i := 14) (oi := ⟨some 104, _, _, _, _, _⟩) (v := ?v415) rfl (by kernel_rfl) (by kernel_rfl) (by kernel_rfl) (fun _ _ _ h => h) (Or.inl ⟨rfl, ?c415⟩) hH ?r415
              case c415 => (intro w' _; go_simp; (try with_reducible rfl))
              try simp only [Act.put, List.setIfInBounds_toArray, List.set_cons_zero, List.set_cons_succ]
              refine wpAnyH_done (by kernel_rfl) ?_ _
              have HAR := hH.1
              have HKR := hH.2
              clear hH
              go_wp2_with fail
              go_roundw
              case rel => exact ⟨1, rfl, by omega, HAR, fun _ => HKR.out⟩
              case measure => simp [RowKit.intOf]; omega
            · obtain ⟨j, rfl⟩ : ∃ j, i = j + 1 := ⟨i - 1, by omega⟩
              obtain ⟨f1, hf1⟩ : ∃ f1, s.fs[j]? = some f1 := ⟨_, List.getElem?_eq_getElem (by have := (List.getElem?_eq_some_iff.1 HFI.out).1; omega)⟩
              have hless := less_next HOK.out hf1 HFI.out
              have hk1 := (HOK.out.ok f1 (List.mem_of_getElem? hf1)).k
              have hk2 := HFO.out.k
              have HLE : Hid (∀ W, Calls Tryz.prog 26 #[.agg (Ky.kyc f1.k.a f1.k.b f1.k.p f1.k.q f1.k.r), .agg (Ky.kyc fk_.a fk_.b fk_.p fk_.q fk_.r)] W fun e w' => e = .returned (.bool true) ∧ Below W.heap.size W w') :=
                fun W => Ky.refLess_any _ _ _ _ _ _ _ _ _ _ hk1.a hk1.b hk1.p hk1.q hk2.a hk2.b hk2.p hk2.q true hless W
              have HKJ : Hid ((s.fs.map (·.k))[j]? = some f1.k) := by show _ = _; rw [List.getElem?_map, hf1]; rfl
              have HJW : Hid (IntKind.i64.wrap (j : Int) = (j : Int)) := by show _ = _; rw [IntWalk.i64_in _ (by omega)]
              have hj1 : j + 1 < n := by omega
              have hj0 : j < n := by omega
              generalize f1.k = fk1 at *
              clear hless hk1 hk2 hf1
              refine wp_region_held_drew (S := fun w' => KyG w' g (s.fs.map (·.k)) ∧ Hid (Am W O B M N T (endS s (j + 1 + 1)) w')) (by kernel_rfl) (⟨HK9.out.next (Below.refl _ _).drew, Lib.hid (HA9.out.next (Below.refl _ _).drew)⟩) (fun hH => ?_)
              refine wpAnyH_take (i := 0) (oi := ⟨some 90, _, _, _, _, _⟩) (v := ?v501) rfl (by kernel_rfl) (by kernel_rfl) (by kernel_rfl) (fun _ _ _ h => h) (Or.inl ⟨rfl, ?c501⟩) hH ?r501
              case c501 => (intro w' _; go_simp; (try with_reducible rfl))
              try simp only [Act.put, List.setIfInBounds_toArray, List.set_cons_zero, List.set_cons_succ]
              refine wpAnyH_take (i := 1) (oi := ⟨some 91, _, _, _, _, _⟩) (v := ?v502) rfl (by kernel_rfl) (by kernel_rfl) (by kernel_rfl) (fun _ _ _ h => h) (Or.inl ⟨rfl, ?c502⟩) hH ?r502
              case c502 => (intro w' _; go_simp; (try with_reducible rfl))
              try simp only [Act.put, List.setIfInBounds_toArray, List.set_cons_zero, List.set_cons_succ]
              refine wpAnyH_take (i := 2) (oi := ⟨some 92, _, _, _, _, _⟩) (v := ?v503) rfl (by kernel_rfl) (by kernel_rfl) (by kernel_rfl) (fun _ _ _ h => h) (Or.inl ⟨rfl, ?c503⟩) hH ?r503
              case c503 => (intro w' _; go_simp; (try with_reducible rfl))
              try simp only [Act.put, List.setIfInBounds_toArray, List.set_cons_zero, List.set_cons_succ]
              refine wpAnyH_take (i := 3) (oi := ⟨some 93, _, _, _, _, _⟩) (v := ?v504) rfl (by kernel_rfl) (by kernel_rfl) (by kernel_rfl) (fun _ _ _ h => h) (Or.inl ⟨rfl, ?c504⟩) hH ?r504
              case c504 => (intro w' _; go_simp; (try with_reducible rfl))
              try simp only [Act.put, List.setIfInBounds_toArray, List.set_cons_zero, List.set_cons_succ]
              refine wpAnyH_take (i := 4) (oi := ⟨some 94, _, _, _, _, _⟩) (v := ?v505) rfl (by kernel_rfl) (by kernel_rfl) (by kernel_rfl) (fun _ _ _ h => h) (Or.inl ⟨rfl, ?c505⟩) hH ?r505
              case c505 => (intro w' _; go_simp; (try with_reducible rfl))
              try simp only [Act.put, List.setIfInBounds_toArray, List.set_cons_zero, List.set_cons_succ]
              refine wpAnyH_take (i := 5) (oi := ⟨some 95, _, _, _, _, _⟩) (v := ?v506) rfl (by kernel_rfl) (by kernel_rfl) (by kernel_rfl) (fun _ _ _ h => h) (Or.inl ⟨rfl, ?c506⟩) hH ?r506
              case c506 => (intro w' _; go_simp; rw [HJW.out])
              try simp only [Act.put, List.setIfInBounds_toArray, List.set_cons_zero, List.set_cons_succ]
              refine wpAnyH_take (i := 6) (oi := ⟨some 96, _, _, _, _, _⟩) (v := ?v507) rfl (by kernel_rfl) (by kernel_rfl) (by kernel_rfl) (fun _ _ _ h => h) (Or.inl ⟨rfl, ?c507⟩) hH ?r507
              case c507 => (intro w' _; go_simp; (try with_reducible rfl))
              try simp only [Act.put, List.setIfInBounds_toArray, List.set_cons_zero, List.set_cons_succ]
              refine wpAnyH_take (i := 7) (oi := ⟨some 97, _, _, _, _, _⟩) (v := ?v508) rfl (by kernel_rfl) (by kernel_rfl) (by kernel_rfl) (fun _ _ _ h => h) (Or.inl ⟨rfl, ?c508⟩) hH ?r508
              case c508 => (intro w' hS; obtain ⟨x0, x1, x2, x3, x4⟩ := hS.1.at_ j _ HKJ.out; go_simp; (try with_reducible rfl))
              try simp only [Act.put, List.setIfInBounds_toArray, List.set_cons_zero, List.set_cons_succ]
              refine wpAnyH_take (i := 8) (oi := ⟨some 98, _, _, _, _, _⟩) (v := ?v509) rfl (by kernel_rfl) (by kernel_rfl) (by kernel_rfl) (fun _ _ _ h => h) (Or.inl ⟨rfl, ?c509⟩) hH ?r509
              case c509 => (intro w' _; go_simp; (try with_reducible rfl))
              try simp only [Act.put, List.setIfInBounds_toArray, List.set_cons_zero, List.set_cons_succ]
              refine wpAnyH_take (i := 9) (oi := ⟨some 99, _, _, _, _, _⟩) (v := ?v510) rfl (by kernel_rfl) (by kernel_rfl) (by kernel_rfl) (fun _ _ _ h => h) (Or.inl ⟨rfl, ?c510⟩) hH ?r510
              case c510 => (intro w' _; go_simp; (try with_reducible rfl))
              try simp only [Act.put, List.setIfInBounds_toArray, List.set_cons_zero, List.set_cons_succ]
              refine wpAnyH_take (i := 10) (oi := ⟨some 100, _, _, _, _, _⟩) (v := ?v511) rfl (by kernel_rfl) (by kernel_rfl) (by kernel_rfl) (fun _ _ _ h => h) (Or.inl ⟨rfl, ?c511⟩) hH ?r511
              case c511 => (intro w' _; go_simp; rw [if_pos (by omega)])
              try simp only [Act.put, List.setIfInBounds_toArray, List.set_cons_zero, List.set_cons_succ]
              refine wpAnyH_take (i := 11) (oi := ⟨some 101, _, _, _, _, _⟩) (v := ?v512) rfl (by kernel_rfl) (by kernel_rfl) (by kernel_rfl) (fun _ _ _ h => h) (Or.inl ⟨rfl, ?c512⟩) hH ?r512
              case c512 => (intro w' hS; obtain ⟨x0, x1, x2, x3, x4⟩ := hS.1.at_ (j + 1) _ HKI.out; go_simp; (try with_reducible rfl))
              try simp only [Act.put, List.setIfInBounds_toArray, List.set_cons_zero, List.set_cons_succ]
              refine wpAnyH_ready (rs := [12]) (by kernel_rfl) (by simp) (AllReadyH.cons rfl (fun K hK => ?_) (AllReadyH.nil))
              go_simp
              go_at_call 26
              refine (HLE.out _).mono ?_
              rintro e w10 ⟨rfl, hb⟩
              refine hK.out _ _ (⟨hH.1.next hb, Lib.hid (hH.2.out.next hb)⟩) (fun hH => ?_)
              clear hK K
              clear hb
              try simp only [Act.put, List.setIfInBounds_toArray, List.set_cons_zero, List.set_cons_succ]
              refine wpAnyH_take (i := 13) (oi := ⟨some 103, _, _, _, _, _⟩) (v := ?v513) rfl (by kernel_rfl) (by kernel_rfl) (by kernel_rfl) (fun _ _ _ h => h) (Or.inl ⟨rfl, ?c513⟩) hH ?r513
              case c513 => (intro w' _; go_simp; (try with_reducible rfl))
              try simp only [Act.put, List.setIfInBounds_toArray, List.set_cons_zero, List.set_cons_succ]
              refine wpAnyH_take (i := 14) (oi := ⟨some 104, _, _, _, _, _⟩) (v := ?v514) rfl (by kernel_rfl) (by kernel_rfl) (by kernel_rfl) (fun _ _ _ h => h) (Or.inl ⟨rfl, ?c514⟩) hH ?r514
              case c514 => (intro w' _; go_simp; (try with_reducible rfl))
              try simp only [Act.put, List.setIfInBounds_toArray, List.set_cons_zero, List.set_cons_succ]
              refine wpAnyH_done (by kernel_rfl) ?_ _
              have HAR := hH.2
              have HKR := Lib.hid hH.1
              clear hH
              go_wp2_with fail
              go_roundw
              case rel => exact ⟨j + 1 + 1, by go_num, by omega, HAR, fun _ => HKR.out⟩
              case measure => simp [RowKit.intOf]; omega
        · as_aux_lemma =>
            have hov : Fl.overB f_c f_n f_s s.c = false := by
              have h := over_is HFO.out s.c
              simp only at h
              rw [h, HSC.out]
              exact decide_eq_false (by omega)
            have HE := Lib.hid (end_step HIN.out HFI.out false hov)
            have dn : (f_n == 1048575) = false := by simpa using hn
            clear hov hn
            refine wp_region_held_drew (S := fun w' => Blk w' gf (Fl.gtc f_s f_n f_c) 50 ∧ Hid (Am W O B M N T (endS s i) w') ∧ Hid (KyG w' g (s.fs.map (·.k)))) (by kernel_rfl) (⟨HX4.out.drew, Lib.hid (HA4.out.next (Below.refl _ _).drew), Lib.hid (HK4.out.next (Below.refl _ _).drew)⟩) (fun hH => ?_)
            refine wpAnyH_take (i := 0) (oi := ⟨some 45, _, _, _, _, _⟩) (v := ?v901) rfl (by kernel_rfl) (by kernel_rfl) (by kernel_rfl) (fun _ _ _ h => h) (Or.inl ⟨rfl, ?c901⟩) hH ?r901
            case c901 => (intro w' _; go_simp; (try with_reducible rfl))
            try simp only [Act.put, List.setIfInBounds_toArray, List.set_cons_zero, List.set_cons_succ]
            refine wpAnyH_take (i := 1) (oi := ⟨some 46, _, _, _, _, _⟩) (v := ?v902) rfl (by kernel_rfl) (by kernel_rfl) (by kernel_rfl) (fun _ _ _ h => h) (Or.inl ⟨rfl, ?c902⟩) hH ?r902
            case c902 => (intro w' hS; have z := hS.1.cell 2 _ rfl; go_simp; (try with_reducible rfl))
            try simp only [Act.put, List.setIfInBounds_toArray, List.set_cons_zero, List.set_cons_succ]
            refine wpAnyH_take (i := 2) (oi := ⟨some 47, _, _, _, _, _⟩) (v := ?v903) rfl (by kernel_rfl) (by kernel_rfl) (by kernel_rfl) (fun _ _ _ h => h) (Or.inl ⟨rfl, ?c903⟩) hH ?r903
            case c903 => (intro w' _; go_simp; (try with_reducible rfl))
            try simp only [Act.put, List.setIfInBounds_toArray, List.set_cons_zero, List.set_cons_succ]
            refine wpAnyH_ready (rs := [3]) (by kernel_rfl) (by simp) (AllReadyH.cons rfl (fun K hK => ?_) (AllReadyH.nil))
            go_simp
            go_at_call 22
            refine (gate_p hH.2.1.out.fw hH.2.1.out.env).mono ?_
            rw [HGC.out]
            rintro e w5 ⟨rfl, hb⟩
            refine hK.out _ _ (⟨hH.1.next hb, Lib.hid (hH.2.1.out.next hb), Lib.hid (hH.2.2.out.next hb)⟩) (fun hH => ?_)
            clear hK K
            clear hb
            try simp only [Act.put, List.setIfInBounds_toArray, List.set_cons_zero, List.set_cons_succ]
            refine wpAnyH_take (i := 4) (oi := ⟨some 49, _, _, _, _, _⟩) (v := ?v904) rfl (by kernel_rfl) (by kernel_rfl) (by kernel_rfl) (fun _ _ _ h => h) (Or.inl ⟨rfl, ?c904⟩) hH ?r904
            case c904 => (intro w' _; go_simp; rw [HFD.out w']; (try simp only [Result.andThen_ok]); (try with_reducible rfl))
            try simp only [Act.put, List.setIfInBounds_toArray, List.set_cons_zero, List.set_cons_succ]
            refine wpAnyH_take (i := 5) (oi := ⟨some 50, _, _, _, _, _⟩) (v := ?v905) rfl (by kernel_rfl) (by kernel_rfl) (by kernel_rfl) (fun _ _ _ h => h) (Or.inl ⟨rfl, ?c905⟩) hH ?r905
            case c905 => (intro w' _; go_simp; (try with_reducible rfl))
            try simp only [Act.put, List.setIfInBounds_toArray, List.set_cons_zero, List.set_cons_succ]
            refine wpAnyH_take (i := 6) (oi := ⟨some 51, _, _, _, _, _⟩) (v := ?v906) rfl (by kernel_rfl) (by kernel_rfl) (by kernel_rfl) (fun _ _ _ h => h) (Or.inl ⟨rfl, ?c906⟩) hH ?r906
            case c906 => (intro w' _; go_simp; (try with_reducible rfl))
            try simp only [Act.put, List.setIfInBounds_toArray, List.set_cons_zero, List.set_cons_succ]
            refine wpAnyH_take (i := 7) (oi := ⟨some 52, _, _, _, _, _⟩) (v := ?v907) rfl (by kernel_rfl) (by kernel_rfl) (by kernel_rfl) (fun _ _ _ h => h) (Or.inl ⟨rfl, ?c907⟩) hH ?r907
            case c907 => (intro w' _; go_simp; (try with_reducible rfl))
            try simp only [Act.put, List.setIfInBounds_toArray, List.set_cons_zero, List.set_cons_succ]
            refine wpAnyH_take (i := 8) (oi := ⟨some 53, _, _, _, _, _⟩) (v := ?v908) rfl (by kernel_rfl) (by kernel_rfl) (by kernel_rfl) (fun _ _ _ h => h) (Or.inl ⟨rfl, ?c908⟩) hH ?r908
            case c908 => (intro w' hS; have z := hS.1.cell 1 _ rfl; go_simp; (try with_reducible rfl))
            try simp only [Act.put, List.setIfInBounds_toArray, List.set_cons_zero, List.set_cons_succ]
            refine wpAnyH_take (i := 9) (oi := ⟨some 54, _, _, _, _, _⟩) (v := ?v909) rfl (by kernel_rfl) (by kernel_rfl) (by kernel_rfl) (fun _ _ _ h => h) (Or.inl ⟨rfl, ?c909⟩) hH ?r909
            case c909 => (intro w' _; go_simp; (try with_reducible rfl))
            try simp only [Act.put, List.setIfInBounds_toArray, List.set_cons_zero, List.set_cons_succ]
            refine wpAnyH_take (i := 10) (oi := ⟨some 55, _, _, _, _, _⟩) (v := ?v910) rfl (by kernel_rfl) (by kernel_rfl) (by kernel_rfl) (fun _ _ _ h => h) (Or.inl ⟨rfl, ?c910⟩) hH ?r910
            case c910 => (intro w' _; go_simp; (try with_reducible rfl))
            try simp only [Act.put, List.setIfInBounds_toArray, List.set_cons_zero, List.set_cons_succ]
            refine wpAnyH_take (i := 11) (oi := ⟨some 14, _, _, _, _, _⟩) (v := ?v911) rfl (by kernel_rfl) (by kernel_rfl) (by kernel_rfl) (fun _ _ _ h => h) (Or.inl ⟨rfl, ?c911⟩) hH ?r911
            case c911 => (intro w' _; go_simp; (try with_reducible rfl))
            try simp only [Act.put, List.setIfInBounds_toArray, List.set_cons_zero, List.set_cons_succ]
            refine wpAnyH_done (by kernel_rfl) ?_ _
            have HA5 := hH.2.1
            have HK5 := hH.2.2
            clear hH
            obtain ⟨x0, x1, x2, x3, x4⟩ := HK5.out.at_ i _ HKI.out
            go_wp2_with fail
            clear x0 x1 x2 x3 x4
            go_at_call 19
            refine (delete_p HA5.out.fw HA5.out.env fk_).mono ?_
            rw [HE.out.2.1]
            rintro e w6 ⟨rfl, hp, ho⟩
            have HA6 := Lib.hid (HA5.out.same hp ho)
            have HK6 := Lib.hid (HK5.out.only ho HGN.out)
            clear hp ho HA5 HK5
            obtain ⟨x0, x1, x2, x3, x4⟩ := HK6.out.at_ i _ HKI.out
            go_wp2_with fail
            clear x0 x1 x2 x3 x4
            go_at_call 19
            refine (delete_p HA6.out.fw HA6.out.env fk_).mono ?_
            rw [HE.out.2.2.1, HE.out.2.2.2.1]
            rintro e w7 ⟨rfl, hp, ho⟩
            have HA7 := Lib.hid (HA6.out.same hp ho)
            have HK7 := Lib.hid (HK6.out.only ho HGN.out)
            clear hp ho HA6 HK6
            obtain ⟨x0, x1, x2, x3, x4⟩ := HK7.out.at_ i _ HKI.out
            go_wp2_with fail
            clear x0 x1 x2 x3 x4
            go_at_call 25
            refine (drop_p HA7.out.fw HA7.out.env fk_).mono ?_
            rw [HE.out.2.2.2.2.1, HE.out.2.2.2.2.2.1]
            rintro e w8 ⟨rfl, hp, ho⟩
            have HA8 := Lib.hid (HA7.out.same hp ho)
            have HK8 := Lib.hid (HK7.out.only ho HGN.out)
            clear hp ho HA7 HK7
            obtain ⟨x0, x1, x2, x3, x4⟩ := HK8.out.at_ i _ HKI.out
            go_wp2_with fail
            clear x0 x1 x2 x3 x4
            go_at_call 25
            refine (drop_p HA8.out.fw HA8.out.env fk_).mono ?_
            rw [HE.out.2.2.2.2.2.2.1, HE.out.2.2.2.2.2.2.2]
            rintro e w9 ⟨rfl, hp, ho⟩
            have HA9 := Lib.hid (HA8.out.same hp ho)
            have HK9 := Lib.hid (HK8.out.only ho HGN.out)
            clear hp ho HA8 HK8
            go_wp2_with fail
            rcases Nat.eq_zero_or_pos i with hi0 | hi0
            · subst hi0
              refine wp_region_held_drew (S := fun w' => Hid (Am W O B M N T (endS s (0 + 1)) w') ∧ Hid (KyG w' g (s.fs.map (·.k)))) (by kernel_rfl) (⟨Lib.hid (HA9.out.next (Below.refl _ _).drew), Lib.hid (HK9.out.next (Below.refl _ _).drew)⟩) (fun hH => ?_)
              refine wpAnyH_take (i := 0) (oi := ⟨some 90, _, _, _, _, _⟩) (v := ?v701) rfl (by kernel_rfl) (by kernel_rfl) (by kernel_rfl) (fun _ _ _ h => h) (Or.inl ⟨rfl, ?c701⟩) hH ?r701
              case c701 => (intro w' _; go_simp; (try with_reducible rfl))
              try simp only [Act.put, List.setIfInBounds_toArray, List.set_cons_zero, List.set_cons_succ]
              refine wpAnyH_take (i := 1) (oi := ⟨some 91, _, _, _, _, _⟩) (v := ?v702) rfl (by kernel_rfl) (by kernel_rfl) (by kernel_rfl) (fun _ _ _ h => h) (Or.inl ⟨rfl, ?c702⟩) hH ?r702
              case c702 => (intro w' _; go_simp; (try with_reducible rfl))
              try simp only [Act.put, List.setIfInBounds_toArray, List.set_cons_zero, List.set_cons_succ]
              refine wpAnyH_take (i := 2) (oi := ⟨some 92, _, _, _, _, _⟩) (v := ?v703) rfl (by kernel_rfl) (by kernel_rfl) (by kernel_rfl) (fun _ _ _ h => h) (Or.inl ⟨rfl, ?c703⟩) hH ?r703
              case c703 => (intro w' _; go_simp; (try with_reducible rfl))
              try simp only [Act.put, List.setIfInBounds_toArray, List.set_cons_zero, List.set_cons_succ]
              refine wpAnyH_take (i := 3) (oi := ⟨some 93, _, _, _, _, _⟩) (v := undef) rfl (by kernel_rfl) (by kernel_rfl) (by kernel_rfl) (fun _ _ _ h => h) (Or.inr ⟨rfl, rfl⟩) hH ?_
              try simp only [Act.put, List.setIfInBounds_toArray, List.set_cons_zero, List.set_cons_succ]
              refine wpAnyH_take (i := 4) (oi := ⟨some 94, _, _, _, _, _⟩) (v := undef) rfl (by kernel_rfl) (by kernel_rfl) (by kernel_rfl) (fun _ _ _ h => h) (Or.inr ⟨rfl, rfl⟩) hH ?_
              try simp only [Act.put, List.setIfInBounds_toArray, List.set_cons_zero, List.set_cons_succ]
              refine wpAnyH_take (i := 5) (oi := ⟨some 95, _, _, _, _, _⟩) (v := undef) rfl (by kernel_rfl) (by kernel_rfl) (by kernel_rfl) (fun _ _ _ h => h) (Or.inr ⟨rfl, rfl⟩) hH ?_
              try simp only [Act.put, List.setIfInBounds_toArray, List.set_cons_zero, List.set_cons_succ]
              refine wpAnyH_take (i := 6) (oi := ⟨some 96, _, _, _, _, _⟩) (v := undef) rfl (by kernel_rfl) (by kernel_rfl) (by kernel_rfl) (fun _ _ _ h => h) (Or.inr ⟨rfl, rfl⟩) hH ?_
              try simp only [Act.put, List.setIfInBounds_toArray, List.set_cons_zero, List.set_cons_succ]
              refine wpAnyH_take (i := 7) (oi := ⟨some 97, _, _, _, _, _⟩) (v := undef) rfl (by kernel_rfl) (by kernel_rfl) (by kernel_rfl) (fun _ _ _ h => h) (Or.inr ⟨rfl, rfl⟩) hH ?_
              try simp only [Act.put, List.setIfInBounds_toArray, List.set_cons_zero, List.set_cons_succ]
              refine wpAnyH_take (i := 8) (oi := ⟨some 98, _, _, _, _, _⟩) (v := undef) rfl (by kernel_rfl) (by kernel_rfl) (by kernel_rfl) (fun _ _ _ h => h) (Or.inr ⟨rfl, rfl⟩) hH ?_
              try simp only [Act.put, List.setIfInBounds_toArray, List.set_cons_zero, List.set_cons_succ]
              refine wpAnyH_take (i := 9) (oi := ⟨some 99, _, _, _, _, _⟩) (v := undef) rfl (by kernel_rfl) (by kernel_rfl) (by kernel_rfl) (fun _ _ _ h => h) (Or.inr ⟨rfl, rfl⟩) hH ?_
              try simp only [Act.put, List.setIfInBounds_toArray, List.set_cons_zero, List.set_cons_succ]
              refine wpAnyH_take (i := 10) (oi := ⟨some 100, _, _, _, _, _⟩) (v := undef) rfl (by kernel_rfl) (by kernel_rfl) (by kernel_rfl) (fun _ _ _ h => h) (Or.inr ⟨rfl, rfl⟩) hH ?_
              try simp only [Act.put, List.setIfInBounds_toArray, List.set_cons_zero, List.set_cons_succ]
              refine wpAnyH_take (i := 11) (oi := ⟨some 101, _, _, _, _, _⟩) (v := undef) rfl (by kernel_rfl) (by kernel_rfl) (by kernel_rfl) (fun _ _ _ h => h) (Or.inr ⟨rfl, rfl⟩) hH ?_
              try simp only [Act.put, List.setIfInBounds_toArray, List.set_cons_zero, List.set_cons_succ]
              refine wpAnyH_take (i := 12) (oi := ⟨some 102, _, _, _, _, _⟩) (v := undef) rfl (by kernel_rfl) (by kernel_rfl) (by kernel_rfl) (fun _ _ _ h => h) (Or.inr ⟨rfl, rfl⟩) hH ?_
              try simp only [Act.put, List.setIfInBounds_toArray, List.set_cons_zero, List.set_cons_succ]
              refine wpAnyH_take (i := 13) (oi := ⟨some 103, _, _, _, _, _⟩) (v := undef) rfl (by kernel_rfl) (by kernel_rfl) (by kernel_rfl) (fun _ _ _ h => h) (Or.inr ⟨rfl, rfl⟩) hH ?_
              try simp only [Act.put, List.setIfInBounds_toArray, List.set_cons_zero, List.set_cons_succ]
              refine wpAnyH_take (i := 14) (oi := ⟨some 104, _, _, _, _, _⟩) (v := ?v715) rfl (by kernel_rfl) (by kernel_rfl) (by kernel_rfl) (fun _ _ _ h => h) (Or.inl ⟨rfl, ?c715⟩) hH ?r715
              case c715 => (intro w' _; go_simp; (try with_reducible rfl))
              try simp only [Act.put, List.setIfInBounds_toArray, List.set_cons_zero, List.set_cons_succ]
              refine wpAnyH_done (by kernel_rfl) ?_ _
              have HAR := hH.1
              have HKR := hH.2
              clear hH
              go_wp2_with fail
              go_roundw
              case rel => exact ⟨1, rfl, by omega, HAR, fun _ => HKR.out⟩
              case measure => simp [RowKit.intOf]; omega
            · obtain ⟨j, rfl⟩ : ∃ j, i = j + 1 := ⟨i - 1, by omega⟩
              obtain ⟨f1, hf1⟩ : ∃ f1, s.fs[j]? = some f1 := ⟨_, List.getElem?_eq_getElem (by have := (List.getElem?_eq_some_iff.1 HFI.out).1; omega)⟩
              have hless := less_next HOK.out hf1 HFI.out
              have hk1 := (HOK.out.ok f1 (List.mem_of_getElem? hf1)).k
              have hk2 := HFO.out.k
              have HLE : Hid (∀ W, Calls Tryz.prog 26 #[.agg (Ky.kyc f1.k.a f1.k.b f1.k.p f1.k.q f1.k.r), .agg (Ky.kyc fk_.a fk_.b fk_.p fk_.q fk_.r)] W fun e w' => e = .returned (.bool true) ∧ Below W.heap.size W w') :=
                fun W => Ky.refLess_any _ _ _ _ _ _ _ _ _ _ hk1.a hk1.b hk1.p hk1.q hk2.a hk2.b hk2.p hk2.q true hless W
              have HKJ : Hid ((s.fs.map (·.k))[j]? = some f1.k) := by show _ = _; rw [List.getElem?_map, hf1]; rfl
              have HJW : Hid (IntKind.i64.wrap (j : Int) = (j : Int)) := by show _ = _; rw [IntWalk.i64_in _ (by omega)]
              have hj1 : j + 1 < n := by omega
              have hj0 : j < n := by omega
              generalize f1.k = fk1 at *
              clear hless hk1 hk2 hf1
              refine wp_region_held_drew (S := fun w' => KyG w' g (s.fs.map (·.k)) ∧ Hid (Am W O B M N T (endS s (j + 1 + 1)) w')) (by kernel_rfl) (⟨HK9.out.next (Below.refl _ _).drew, Lib.hid (HA9.out.next (Below.refl _ _).drew)⟩) (fun hH => ?_)
              refine wpAnyH_take (i := 0) (oi := ⟨some 90, _, _, _, _, _⟩) (v := ?v801) rfl (by kernel_rfl) (by kernel_rfl) (by kernel_rfl) (fun _ _ _ h => h) (Or.inl ⟨rfl, ?c801⟩) hH ?r801
              case c801 => (intro w' _; go_simp; (try with_reducible rfl))
              try simp only [Act.put, List.setIfInBounds_toArray, List.set_cons_zero, List.set_cons_succ]
              refine wpAnyH_take (i := 1) (oi := ⟨some 91, _, _, _, _, _⟩) (v := ?v802) rfl (by kernel_rfl) (by kernel_rfl) (by kernel_rfl) (fun _ _ _ h => h) (Or.inl ⟨rfl, ?c802⟩) hH ?r802
              case c802 => (intro w' _; go_simp; (try with_reducible rfl))
              try simp only [Act.put, List.setIfInBounds_toArray, List.set_cons_zero, List.set_cons_succ]
              refine wpAnyH_take (i := 2) (oi := ⟨some 92, _, _, _, _, _⟩) (v := ?v803) rfl (by kernel_rfl) (by kernel_rfl) (by kernel_rfl) (fun _ _ _ h => h) (Or.inl ⟨rfl, ?c803⟩) hH ?r803
              case c803 => (intro w' _; go_simp; (try with_reducible rfl))
              try simp only [Act.put, List.setIfInBounds_toArray, List.set_cons_zero, List.set_cons_succ]
              refine wpAnyH_take (i := 3) (oi := ⟨some 93, _, _, _, _, _⟩) (v := ?v804) rfl (by kernel_rfl) (by kernel_rfl) (by kernel_rfl) (fun _ _ _ h => h) (Or.inl ⟨rfl, ?c804⟩) hH ?r804
              case c804 => (intro w' _; go_simp; (try with_reducible rfl))
              try simp only [Act.put, List.setIfInBounds_toArray, List.set_cons_zero, List.set_cons_succ]
              refine wpAnyH_take (i := 4) (oi := ⟨some 94, _, _, _, _, _⟩) (v := ?v805) rfl (by kernel_rfl) (by kernel_rfl) (by kernel_rfl) (fun _ _ _ h => h) (Or.inl ⟨rfl, ?c805⟩) hH ?r805
              case c805 => (intro w' _; go_simp; (try with_reducible rfl))
              try simp only [Act.put, List.setIfInBounds_toArray, List.set_cons_zero, List.set_cons_succ]
              refine wpAnyH_take (i := 5) (oi := ⟨some 95, _, _, _, _, _⟩) (v := ?v806) rfl (by kernel_rfl) (by kernel_rfl) (by kernel_rfl) (fun _ _ _ h => h) (Or.inl ⟨rfl, ?c806⟩) hH ?r806
              case c806 => (intro w' _; go_simp; rw [HJW.out])
              try simp only [Act.put, List.setIfInBounds_toArray, List.set_cons_zero, List.set_cons_succ]
              refine wpAnyH_take (i := 6) (oi := ⟨some 96, _, _, _, _, _⟩) (v := ?v807) rfl (by kernel_rfl) (by kernel_rfl) (by kernel_rfl) (fun _ _ _ h => h) (Or.inl ⟨rfl, ?c807⟩) hH ?r807
              case c807 => (intro w' _; go_simp; (try with_reducible rfl))
              try simp only [Act.put, List.setIfInBounds_toArray, List.set_cons_zero, List.set_cons_succ]
              refine wpAnyH_take (i := 7) (oi := ⟨some 97, _, _, _, _, _⟩) (v := ?v808) rfl (by kernel_rfl) (by kernel_rfl) (by kernel_rfl) (fun _ _ _ h => h) (Or.inl ⟨rfl, ?c808⟩) hH ?r808
              case c808 => (intro w' hS; obtain ⟨x0, x1, x2, x3, x4⟩ := hS.1.at_ j _ HKJ.out; go_simp; (try with_reducible rfl))
              try simp only [Act.put, List.setIfInBounds_toArray, List.set_cons_zero, List.set_cons_succ]
              refine wpAnyH_take (i := 8) (oi := ⟨some 98, _, _, _, _, _⟩) (v := ?v809) rfl (by kernel_rfl) (by kernel_rfl) (by kernel_rfl) (fun _ _ _ h => h) (Or.inl ⟨rfl, ?c809⟩) hH ?r809
              case c809 => (intro w' _; go_simp; (try with_reducible rfl))
              try simp only [Act.put, List.setIfInBounds_toArray, List.set_cons_zero, List.set_cons_succ]
              refine wpAnyH_take (i := 9) (oi := ⟨some 99, _, _, _, _, _⟩) (v := ?v810) rfl (by kernel_rfl) (by kernel_rfl) (by kernel_rfl) (fun _ _ _ h => h) (Or.inl ⟨rfl, ?c810⟩) hH ?r810
              case c810 => (intro w' _; go_simp; (try with_reducible rfl))
              try simp only [Act.put, List.setIfInBounds_toArray, List.set_cons_zero, List.set_cons_succ]
              refine wpAnyH_take (i := 10) (oi := ⟨some 100, _, _, _, _, _⟩) (v := ?v811) rfl (by kernel_rfl) (by kernel_rfl) (by kernel_rfl) (fun _ _ _ h => h) (Or.inl ⟨rfl, ?c811⟩) hH ?r811
              case c811 => (intro w' _; go_simp; rw [if_pos (by omega)])
              try simp only [Act.put, List.setIfInBounds_toArray, List.set_cons_zero, List.set_cons_succ]
              refine wpAnyH_take (i := 11) (oi := ⟨some 101, _, _, _, _, _⟩) (v := ?v812) rfl (by kernel_rfl) (by kernel_rfl) (by kernel_rfl) (fun _ _ _ h => h) (Or.inl ⟨rfl, ?c812⟩) hH ?r812
              case c812 => (intro w' hS; obtain ⟨x0, x1, x2, x3, x4⟩ := hS.1.at_ (j + 1) _ HKI.out; go_simp; (try with_reducible rfl))
              try simp only [Act.put, List.setIfInBounds_toArray, List.set_cons_zero, List.set_cons_succ]
              refine wpAnyH_ready (rs := [12]) (by kernel_rfl) (by simp) (AllReadyH.cons rfl (fun K hK => ?_) (AllReadyH.nil))
              go_simp
              go_at_call 26
              refine (HLE.out _).mono ?_
              rintro e w10 ⟨rfl, hb⟩
              refine hK.out _ _ (⟨hH.1.next hb, Lib.hid (hH.2.out.next hb)⟩) (fun hH => ?_)
              clear hK K
              clear hb
              try simp only [Act.put, List.setIfInBounds_toArray, List.set_cons_zero, List.set_cons_succ]
              refine wpAnyH_take (i := 13) (oi := ⟨some 103, _, _, _, _, _⟩) (v := ?v813) rfl (by kernel_rfl) (by kernel_rfl) (by kernel_rfl) (fun _ _ _ h => h) (Or.inl ⟨rfl, ?c813⟩) hH ?r813
              case c813 => (intro w' _; go_simp; (try with_reducible rfl))
              try simp only [Act.put, List.setIfInBounds_toArray, List.set_cons_zero, List.set_cons_succ]
              refine wpAnyH_take (i := 14) (oi := ⟨some 104, _, _, _, _, _⟩) (v := ?v814) rfl (by kernel_rfl) (by kernel_rfl) (by kernel_rfl) (fun _ _ _ h => h) (Or.inl ⟨rfl, ?c814⟩) hH ?r814
              case c814 => (intro w' _; go_simp; (try with_reducible rfl))
              try simp only [Act.put, List.setIfInBounds_toArray, List.set_cons_zero, List.set_cons_succ]
              refine wpAnyH_done (by kernel_rfl) ?_ _
              have HAR := hH.2
              have HKR := Lib.hid hH.1
              clear hH
              go_wp2_with fail
              go_roundw
              case rel => exact ⟨j + 1 + 1, by go_num, by omega, HAR, fun _ => HKR.out⟩
              case measure => simp [RowKit.intOf]; omega
      · obtain rfl : i = n := by omega
        have HZ : Hid ((endS s i).fs.length = 0 ∧ (endS s i).g = 0) := by
          refine ⟨by show (s.fs.drop i).length = 0; rw [List.length_drop, HLN.out]; omega, ?_⟩
          show s.g - (i : Int) = 0
          have h1 := HIN.out.cnt
          rw [HLN.out] at h1
          omega
        clear HKp HKG
        go_wp2_with fail
        go_at_call 11
        refine (awake_any _ HA.out.env).mono ?_
        rintro e w6 ⟨rfl, hb⟩
        have HA6 := Lib.hid (HA.out.next hb)
        clear hb HA
        go_wp2_with fail
        go_at_call 20
        refine (keys_any HA6.out.fw).mono ?_
        rw [HZ.out.1]
        rintro e w7 ⟨p7, c7, rfl, -, hb⟩
        have HA7 := Lib.hid (HA6.out.next hb)
        clear hb HA6
        go_wp2_with fail
        go_at_call 22
        refine (gate_p HA7.out.fw HA7.out.env).mono ?_
        rw [HZ.out.2]
        rintro e w8 ⟨rfl, hb⟩
        have HB8 := Lib.hid (HA7.out.next hb).bel
        have hfd1 := fun w => field1_ (.int .i64 (endS s i).v) (.int .i64 0) (.int .i64 (endS s i).c) w
        clear hb HA7
        go_wp2_with fail
        go_ret
        exact ⟨rfl, HB8.out⟩
  · have HSO := Lib.hid (some_no (W.alloc (.cells (cfc z N T) 24)) z N T A m c rs (.slice Aa len cap) xs (he.below hb0) hz htm hm (hrd.below hb0) hro h0)
    have HE0 := Lib.hid (he.below hb0)
    clear hrd hro hl hd hxo hz htm h0 he hb0 hm
    go_enter Tryz.func6, Tryz.ntmps6
    go_wp2_with (refine wpList_load_row rfl 24 (.tmp 4) rfl W.heap.size rfl _ (cfc z N T) _ _ HX0.out Tryz.underlying24 rfl (cfg_size z N T) ?_)
    go_at_call 17
    refine HSO.out.mono ?_
    rintro e w1 ⟨rfl, hb⟩
    have HB1 := Lib.hid (below_then HB0.out hb)
    have HE1 := Lib.hid (HE0.out.below hb)
    clear hb
    go_wp2_with fail
    go_at_call 11
    refine (awake_any _ HE1.out).mono ?_
    rintro e w2 ⟨rfl, hb⟩
    have HB2 := Lib.hid (below_then HB1.out hb)
    clear hb
    go_wp2_with fail
    go_ret
    exact ⟨rfl, HB2.out⟩
end Au
end Go.Proofs.YtcjppfggllbbeaaGreatDoor
