/- Contracts of Num and Cut, of package field and of its reference. -/
import Derived.Test.YtapcjjhbdhkhhaaDoorFldA
import Derived.Test.YtapcjjhbdhkhhaaDoorCom
set_option linter.unusedVariables false
namespace Go.Proofs.YtapcjjhbdhkhhaaDoor
open Go.ChangeShapes Go.WideShapes Go.ChangeAt Go.RowKit Go.Mtl
namespace Fld
open FldM

/-- The bytes of a number: there are such. -/
def hld (len a s : Int) : Prop := 0 ≤ a ∧ 1 ≤ s ∧ s ≤ 8 ∧ a ≤ len - s

theorem holds_yes (l a s : Int) (h0 : 0 ≤ a) (h1 : 1 ≤ s) (h2 : s ≤ 8) (h3 : a ≤ l - s) (hl : 0 ≤ l ∧ l ≤ 9223372036854775807) (w : World) :
    Calls Tryd.prog 57 #[.int .i64 l, .int .i64 a, .int .i64 s] w fun e w' => e = .returned (.bool true) ∧ w = w' := by
  go_enter Tryd.func57, Tryd.ntmps57
  go_wp2
  go_ret
  exact ⟨rfl, rfl⟩

theorem holds_no (l a s : Int) (h : ¬ hld l a s) (hl : 0 ≤ l ∧ l ≤ 9223372036854775807) (w : World) :
    Calls Tryd.prog 57 #[.int .i64 l, .int .i64 a, .int .i64 s] w fun e w' => e = .returned (.bool false) ∧ w = w' := by
  unfold hld at h
  by_cases h0 : 0 ≤ a
  · by_cases h1 : 1 ≤ s
    · by_cases h2 : s ≤ 8
      · have h3 : ¬ a ≤ l - s := by omega
        clear h
        go_enter Tryd.func57, Tryd.ntmps57
        go_wp2
        go_ret
        exact ⟨rfl, rfl⟩
      · clear h
        go_enter Tryd.func57, Tryd.ntmps57
        go_wp2
        go_ret
        exact ⟨rfl, rfl⟩
    · clear h
      go_enter Tryd.func57, Tryd.ntmps57
      go_wp2
      go_ret
      exact ⟨rfl, rfl⟩
  · clear h
    go_enter Tryd.func57, Tryd.ntmps57
    go_wp2
    go_ret
    exact ⟨rfl, rfl⟩

/-- The number of the first k bytes from a on. -/
def numI (bs : List UInt8) (a k : Nat) : Int := (numN ((bs.drop a).take k) : Nat)
theorem numI_zero (bs : List UInt8) (a : Nat) : numI bs a 0 = 0 := by simp [numI, numN]
theorem numI_step (bs : List UInt8) (a k : Nat) (h : a + k < bs.length) : numI bs a (k + 1) = numI bs a k * 256 + (byt bs (a + k) : Int) := by
  unfold numI
  rw [take_snoc _ _ (by simp; omega), numN_snoc]
  simp [byt, List.getD]
theorem numI_bd (bs : List UInt8) (a k : Nat) (hk : k ≤ 7) : 0 ≤ numI bs a k ∧ numI bs a k < 72057594037927936 := by
  have h := numN_lt ((bs.drop a).take k)
  have hl : ((bs.drop a).take k).length ≤ k := List.length_take_le _ _
  have hp : 256 ^ ((bs.drop a).take k).length ≤ 256 ^ 7 := Nat.pow_le_pow_right (by decide) (by omega)
  unfold numI; omega
theorem num_code (bs : List UInt8) (a k : Nat) (hk : k ≤ 7) (h : a + k < bs.length) :
    bits .or .u64 (IntKind.u64.wrap (numI bs a k * 256)) (byt bs (a + k) : Int) = numI bs a (k + 1) := by
  have hb := numI_bd bs a k hk
  have hc := byt_lt bs (a + k)
  rw [numI_step bs a k h, u64_wrap]
  obtain ⟨n, hn⟩ := Int.eq_ofNat_of_zero_le hb.1
  rw [hn] at hb ⊢
  have e : ((n : Int) * 256 % 18446744073709551616) = ((n * 256 : Nat) : Int) := by omega
  rw [e, u64_or_nat _ _ (by omega) (by omega), nat_join 8 _ _ (by omega) (by omega)]
  omega

theorem num_yes (b off len cap : Nat) (bs : List UInt8) (a s : Nat) (hl : bs.length = len) (hlc : len ≤ cap) (hcap : cap ≤ 9223372036854775807)
    (h1 : 1 ≤ s) (h2 : s ≤ 8) (h3 : a + s ≤ len) (W : World) (hc : ∀ j, j < len → W.cell? ⟨b, off + j, none⟩ = some (.int .u8 (byt bs j : Int))) :
    Calls Tryd.prog 52 #[.slice (some ⟨b, off, none⟩) len cap, .int .i64 (a : Int), .int .i64 (s : Int)] W fun e w' => e = .returned (.tuple #[.int .u64 (numI bs a s), .bool true]) ∧ W = w' := by
  go_enter Tryd.func52, Tryd.ntmps52
  go_wp2_with (go_at_call 57; refine (holds_yes _ _ _ (by omega) (by omega) (by omega) (by omega) (by omega) _).mono ?_; rintro e w' ⟨rfl, rfl⟩)
  go_loop [8, 10, 24] (fun n _ i => ∃ k : Nat, k ≤ s ∧ i = .int .i64 (k : Int) ∧ n = .int .u64 (numI bs a k)) (fun _ _ i => s - (intOf i).toNat)
  case atStart => exact ⟨0, by omega, rfl, by rw [numI_zero]⟩
  case round =>
    obtain ⟨k, hk, rfl, rfl⟩ := hrel
    have hcell : k < s → W.cell? ⟨b, off + a + k, none⟩ = some (.int .u8 (byt bs (a + k) : Int)) := fun h => by rw [Nat.add_assoc]; exact hc (a + k) (by omega)
    have HC := Lib.hid hc
    clear hc
    by_cases hlt : k < s
    · have hk1 := hcell hlt
      clear hcell
      have HS := Lib.hid (num_code bs a k (by omega) (by omega))
      have hb := byt_lt bs (a + k)
      go_wp2
      go_round
      case rel => exact ⟨k + 1, by omega, by go_num, by rw [← HS.out]⟩
      case measure => simp [intOf]; omega
    · have HK : Hid (k = s) := by show k = s; omega
      clear hcell
      go_wp2
      go_ret2
      exact ⟨by rw [← HK.out]; rfl, rfl⟩

theorem num_no (A : Option Addr) (len cap : Nat) (a s : Int) (hcap : len ≤ 9223372036854775807) (h : ¬ hld len a s) (W : World) :
    Calls Tryd.prog 52 #[.slice A len cap, .int .i64 a, .int .i64 s] W fun e w' => e = .returned (.tuple #[.int .u64 0, .bool false]) ∧ W = w' := by
  go_enter Tryd.func52, Tryd.ntmps52
  go_wp2_with (go_at_call 57; refine (holds_no _ _ _ h (by omega) _).mono ?_; rintro e w' ⟨rfl, rfl⟩)
  go_ret2
  exact ⟨rfl, rfl⟩

theorem num_ref (bs : List UInt8) (a k : Nat) (hk : k ≤ 7) (h : a + k < bs.length) : IntKind.u64.wrap (IntKind.u64.wrap (numI bs a k * 256) + (byt bs (a + k) : Int)) = numI bs a (k + 1) := by
  have hb := numI_bd bs a k hk
  have hc := byt_lt bs (a + k)
  rw [numI_step bs a k h, u64_wrap, u64_wrap]
  omega

theorem u8_info : (Tryd.prog.info? 5).map (fun i => (i.zero, i.size, i.bytes)) = some (some (.int .u8 0), 1, 1) := by kernel_rfl

/-- What Cut hands back: a slice in new memory that reads as the bytes. -/
def MadeB (w : World) (bs : List UInt8) (e : Ending) (w' : World) : Prop :=
  ∃ A n c, e = .returned (.slice A n c) ∧ Bts w' w'.heap.size A n bs ∧ (n ≤ c ∧ c ≤ 9223372036854775807) ∧ Below w.heap.size w w'

theorem cut_byte (v : Int) (s k : Nat) (hv0 : 0 ≤ v) (hk : k < s) : (v / 2 ^ (8 * (s - 1 - k))) % 256 = ((byt (cutN v.toNat s) k : Nat) : Int) := by
  unfold byt
  rw [cutN_get _ _ _ hk]
  obtain ⟨n, rfl⟩ := Int.eq_ofNat_of_zero_le hv0
  simp

theorem cut_no (v s : Int) (h : ¬ (1 ≤ s ∧ s ≤ 8)) (W : World) :
    Calls Tryd.prog 48 #[.int .u64 v, .int .i64 s] W fun e w' => e = .returned (.slice none 0 0) ∧ W = w' := by
  by_cases h1 : s < 1
  · clear h
    go_enter Tryd.func48, Tryd.ntmps48
    go_wp2
    go_ret
    exact ⟨rfl, rfl⟩
  · have h2 : 8 < s := by omega
    clear h
    go_enter Tryd.func48, Tryd.ntmps48
    go_wp2
    go_ret
    exact ⟨rfl, rfl⟩

/-- In the loop: the first k bytes stand; the row is the call's own. -/
def CutAt (W : World) (v s : Nat) (g : Nat) (k : Nat) (w' : World) : Prop :=
  Below W.heap.size W w' ∧ ∃ l : List UInt8, l.length = s ∧ (∀ j, j < k → byt l j = byt (cutN v s) j) ∧ w'.ownsRow W.heap.size 5 1 (.slice (some ⟨g, 0, none⟩) s s) s (bvs l)

theorem cutAt_step {W wr : World} {v s g k : Nat} (hg : W.heap.size ≤ g) (hk : k < s) (l : List UInt8) (x : Int) (hx : x = ((byt (cutN v s) k : Nat) : Int)) (hbel : Below W.heap.size W wr) (hl : l.length = s)
    (hby : ∀ j, j < k → byt l j = byt (cutN v s) j) (ho : wr.ownsRow W.heap.size 5 1 (.slice (some ⟨g, 0, none⟩) s s) s (bvs l)) : CutAt W v s g (k + 1) (wr.setCell ⟨g, k, none⟩ (.int .u8 x)) := by
  subst hx
  obtain ⟨o1, _⟩ := ho.stored k (.int .u8 ((byt (cutN v s) k : Nat) : Int))
  refine ⟨hbel.setCell hg _, l.set k ((cutN v s).getD k 0), by simpa using hl, fun j hj => ?_, ?_⟩
  · rw [byt_set _ _ _ _ (by omega)]
    split
    · rename_i e; subst e; rfl
    · exact hby j (by omega)
  · rw [← bvs_set]; exact o1
theorem cutAt_done {W wr : World} {v s g : Nat} (hs : s ≤ 9223372036854775807) (h : CutAt W v s g s wr) (e : Ending) (he : e = .returned (.slice (some ⟨g, 0, none⟩) s s)) : MadeB W (cutN v s) e wr := by
  obtain ⟨hb, l, hl, hby, ho⟩ := h
  have : l = cutN v s := eq_of_byt (by rw [cutN_len, hl]) (fun j hj => hby j (by omega))
  subst this
  exact ⟨_, _, _, he, bts_of_own ho rfl, ⟨Nat.le_refl _, hs⟩, hb⟩

theorem cut_yes (v : Int) (s : Nat) (hv0 : 0 ≤ v) (hv : v < 18446744073709551616) (h1 : 1 ≤ s) (h2 : s ≤ 8) (W : World) :
    Calls Tryd.prog 48 #[.int .u64 v, .int .i64 (s : Int)] W (MadeB W (cutN v.toNat s)) := by
  obtain ⟨i0, hi0, hz0, hz1, hz2⟩ := info_parts u8_info
  go_enter Tryd.func48, Tryd.ntmps48
  go_wp2_with (at_make; refine wpList_make_full _ rfl (.tmp 13) (.tmp 13) _ rfl W.heap.size 5 i0 _ 1 Tryd.underlying26 hi0 hz0 hz1 .i64 .i64 (s : Int) (s : Int) s rfl rfl rfl rfl (by rw [hz2]; omega) (by unfold maxLen; omega) (Nat.le_refl _) ?_; intro w1 hown hgr; rw [bvs_zeros] at hown)
  go_loopw [6, 17] (fun _ i w' => ∃ k : Nat, k ≤ s ∧ i = .int .i64 (k : Int) ∧ CutAt W v.toNat s W.heap.size k w') (fun _ i _ => s - (intOf i).toNat)
  case atStart => exact ⟨0, by omega, rfl, (Below.refl _ _).grown hgr (Nat.le_refl _) (by simp), List.replicate s 0, by simp, fun j h => absurd h (by omega), hown⟩
  case round =>
    obtain ⟨k, hk, rfl, hbel, l, hl, hby, ho⟩ := hrel
    clear hown hgr
    by_cases hlt : k < s
    · have hc1 := ho.cellAt k (by omega)
      rw [bvs_at l k (by omega)] at hc1
      have hf1 := ho.frozenAt k
      have HB := Lib.hid (cut_byte v s k hv0 hlt)
      have HO := Lib.hid ho
      have HY := Lib.hid hby
      have HL := Lib.hid hl
      clear ho hby hl
      go_wp2
      go_roundw
      case rel => exact ⟨k + 1, by omega, by go_num, cutAt_step (Nat.le_refl _) hlt l _ HB.out hbel HL.out HY.out HO.out⟩
      case measure => simp [intOf]; omega
    · have hK : k = s := by omega
      subst hK
      have HC := Lib.hid (cutAt_done (W := W) (v := v.toNat) (by omega) ⟨hbel, l, hl, hby, ho⟩)
      clear ho hby hl
      go_wp2
      go_ret
      exact HC.out _ rfl

/-- What the reference's Cut has built after k bytes. -/
def RefAt (W : World) (v s : Nat) (k : Nat) (o : Value) (w' : World) : Prop :=
  Below W.heap.size W w' ∧ w'.ownsRow W.heap.size 5 1 o k (bvs ((cutN v s).take k))

theorem refAt_start (W : World) (v s : Nat) : RefAt W v s 0 (.slice (some ⟨W.heap.size, 0, none⟩) 0 0) (W.alloc (.cells #[] 5)) :=
  ⟨(Below.refl _ _).alloc (Nat.le_refl _) _, by simpa [bvs] using World.ownsRow_lit (e := 5) (size := 1) (base := W.heap.size) W #[] 0 (Nat.le_refl _) (by simp) rfl⟩
theorem refAt_step {W wr w2 : World} {v s k : Nat} {o o2 : Value} {x : Int} (hk : k < s) (hx : x = ((byt (cutN v s) k : Nat) : Int)) (hb : Below W.heap.size W wr) (ho : wr.ownsRow W.heap.size 5 1 o k (bvs ((cutN v s).take k)))
    (ho2 : w2.ownsRow W.heap.size 5 1 o2 (k + 1) (bvs ((cutN v s).take k) ++ [.int .u8 x])) (hg : (wr.alloc (.cells #[.int .u8 x] 5)).grownBy w2 o.ownBlock) : RefAt W v s (k + 1) o2 w2 := by
  subst hx
  refine ⟨(hb.alloc hb.size _).grown hg (by simp; have := hb.size; omega) (fun b h => (ho.lt b h).1), ?_⟩
  rw [FldM.take_snoc _ _ (by rw [cutN_len]; omega), ← bvs_snoc]
  exact ho2
theorem refAt_done {W wr : World} {v s : Nat} {o : Value} (h : RefAt W v s s o wr) : MadeB W (cutN v s) (.returned o) wr := by
  obtain ⟨hb, ho⟩ := h
  rw [List.take_of_length_le (by rw [cutN_len]; exact Nat.le_refl _)] at ho
  rcases ho.2 with ⟨rfl, rfl⟩ | ⟨g, cap, cur, rfl, _, _, h1, h2, _⟩
  · exact ⟨_, _, _, rfl, bts_of_own ho rfl, ⟨Nat.le_refl _, Nat.zero_le _⟩, hb⟩
  · exact ⟨_, _, _, rfl, bts_of_own ho rfl, ⟨h1, by unfold maxLen at h2; omega⟩, hb⟩

end Fld
end Go.Proofs.YtapcjjhbdhkhhaaDoor
