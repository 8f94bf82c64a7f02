/- Layer 13: the contract of match.First. -/
import Derived.Test.YtaniiofoaaekbaaMatC
set_option linter.unusedVariables false
set_option linter.unusedSimpArgs false
namespace Go.Proofs.Ytaniiofoaaekbaa
open Go.ChangeShapes Go.WideShapes Go.ChangeAt Go.RowKit Go.Mtl Go.Lib
namespace Ma
open RulM (R)
open MatM (K hitB fst idxI accB fst_hit fst_none fst_some accB_at)

set_option maxHeartbeats 2000000 in
theorem first_any (A : Option Addr) (n c : Nat) (rs : List R) (k : K) (hk : k.Ok) (w : World) (hn : rs.length = n) (hr : Rds w w.heap.size (.slice A n c) rs) (ho : ∀ r ∈ rs, r.Ok) (hm : n ≤ maxLen) :
    Calls Try.prog 6 #[.slice A n c, .agg #[.int .u8 (k.pr : Int), .int .u32 (k.sr : Int), .int .u32 (k.ds : Int), .int .u16 (k.sp : Int), .int .u16 (k.dp : Int), .int .u8 (k.fl : Int), .int .u8 (k.kd : Int)]] w
      fun e w' => e = .returned (.tuple #[.int .i64 (idxI (fst k rs)), .bool (accB rs (fst k rs))]) ∧ Below w.heap.size w w' := by
  have HK := Lib.hid (KAt.box w k)
  have HI := Lib.hid (index_any A n c rs k hk w.heap.size (w.alloc (.cells (pK k) 26)) hn (hr.below (below_box _ _)) ho (KAt.box w k).blk hm)
  have HRS := Lib.hid hr
  have HN := Lib.hid hn
  unfold maxLen at hm
  clear hk hn hr ho
  cases hf : fst k rs with
  | none =>
    rw [hf] at HI
    clear hf
    unfold idxI at HI
    go_enter Try.func6, Try.ntmps6
    go_wp2_with fail
    go_at_call 12
    refine HI.out.mono ?_
    rintro e w1 ⟨rfl, hb⟩
    have HB := Lib.hid (HK.out.next hb)
    clear hb
    go_wp2_with fail
    go_quiet (fail)
    go_wp2_with fail
    exact bodyPost_ret (v := .tuple #[.int .i64 (-1), .bool false]) (by simp [results, Try.results6, go_sem]) rfl ⟨rfl, HB.out.bel.drews _⟩
  | some i =>
    rw [hf] at HI
    obtain ⟨r, hri, -, -⟩ := fst_some hf
    have hi := (List.getElem?_eq_some_iff.1 hri).1
    have HA := Lib.hid (accB_at hri)
    obtain ⟨b, off, cap, hv, hg, ht⟩ := ten_at HRS.out hri
    injection hv with hv1 hv2 hv3
    subst hv1 hv3
    have hin : i < n := by have := HN.out; omega
    have HT := Lib.hid ht
    have HG := Lib.hid hg
    clear hf hv2 hri hi ht hg
    unfold idxI at HI
    go_enter Try.func6, Try.ntmps6
    go_wp2_with fail
    go_at_call 12
    refine HI.out.mono ?_
    rintro e w1 ⟨rfl, hb⟩
    have HB := Lib.hid (HK.out.next hb)
    have x0 := (HT.out.below HB.out.bel HG.out).1
    clear hb
    go_wp2_with fail
    go_quiet (fail)
    go_wp2_with fail
    exact bodyPost_ret (v := .tuple #[.int .i64 (i : Int), .bool r.acc]) (by simp [results, Try.results6, go_sem]) rfl ⟨by rw [HA.out]; rfl, HB.out.bel.drews _⟩
end Ma
end Go.Proofs.Ytaniiofoaaekbaa
