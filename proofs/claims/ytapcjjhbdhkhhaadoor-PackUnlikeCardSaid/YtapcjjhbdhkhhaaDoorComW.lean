/- More common words, over any program: append onto bytes that fill their array: a row of the call's own, all that was there as it was. -/
import Derived.Test.YtapcjjhbdhkhhaaDoorComV
set_option linter.unusedVariables false
namespace Go.Mtl
open Go.RowKit
theorem Bts.cells {w : World} {B n : Nat} {b off : Nat} {bs : List UInt8} (h : Bts w B (some ⟨b, off, none⟩) n bs) : ∀ j v, (bvs bs)[j]? = some v → w.cell? ((⟨b, off, none⟩ : Addr).add j) = some v := by
  intro j v hv
  have hj : j < bs.length := by have := (List.getElem?_eq_some_iff.1 hv).1; rwa [bvs_len] at this
  obtain ⟨b', off', e', -, hc⟩ := h.at_ (by have := h.len; omega)
  obtain ⟨rfl, rfl⟩ : b = b' ∧ off = off' := by injection e' with e'; injection e' with e1 e2; exact ⟨e1, e2⟩
  have e : (Addr.add ⟨b, off, none⟩ j) = ⟨b, off + j, none⟩ := by unfold Addr.add; split <;> simp_all
  rw [e, hc j (by have := h.len; omega), ← hv, bvs_at bs j hj]
theorem wpList_append_full {P : Program} {w : World} {ops : Array Oper} {rest : List Oper} {o : Oper} {a : Act} {Q : Exit → Act → World → Prop} (k : Nat) (hgd : o.guard = none) (s x : Operand) (t : TypeId)
    (ho : o.op = .call { callee := .builtin .append, args := #[s, x], argTypes := #[t, t] })
    (e : TypeId) (i : TypeInfo) (ht : P.underlying t = some (.slice e)) (hi : P.info? e = some i) (hz : i.zero = some (.int .u8 0)) (hsize : i.size = 1) (hby : i.bytes = 1)
    (B : Nat) (A : Option Addr) (n : Nat) (xs : List UInt8) (hs : a.eval s = .slice A n n) (hr : Bts w B A n xs) (hn0 : 0 < n)
    (B2 : Nat) (A2 : Option Addr) (m c : Nat) (ys : List UInt8) (hx : a.eval x = .slice A2 m c) (hr2 : Bts w B2 A2 m ys) (hm0 : 0 < m) (hk : n + m = k) (hkb : k ≤ 1073741824)
    (h : ∀ A' c' w', Hid (w'.ownsRow w.heap.size e 1 (.slice A' k c') k (bvs (xs ++ ys))) → Hid (Below w.heap.size w w') → Hid (k ≤ c' ∧ c' ≤ 9223372036854775807) → wpList P ops Q rest (a.put o.dst (.slice A' k c')) w') :
    wpList P ops Q (o :: rest) a w := by
  subst hk
  obtain ⟨b, off, rfl, _, _⟩ := hr.at_ hn0
  obtain ⟨b2, off2, rfl, _, _⟩ := hr2.at_ hm0
  have hrun := run_append_grow (P := P) (w := w) t o.type e i (.int .u8 0) ht hi hz ⟨b, off, none⟩ n n (bvs xs) (by rw [bvs_len, hr.len, hsize, Nat.mul_one]) hr.cells ⟨b2, off2, none⟩ m c (bvs ys) (by rw [bvs_len, hr2.len, hsize, Nat.mul_one]) hr2.cells
    (by omega) (by omega) (growslice_fits (by omega) (by rw [hby]; omega))
  have hge := grownCap_ge w (n + m) n e
  have hcm := grownCap_le_maxLen w (n + m) n e (by unfold maxLen; omega)
  have hcm2 := hcm
  unfold maxLen at hcm2
  refine wpList_plain hgd fun K hK => ?_
  unfold Oper.wp
  simp only [execOp, ho, resolve, invoke, builtin, Sem.run_bind, Sem.run_pure, Result.andThen_ok, List.map_toArray, List.map_cons, List.map_nil, hs, hx, hrun]
  refine hK _ _ (h _ _ _ ?_ ?_ (show _ ∧ _ from ⟨hge, hcm2⟩))
  · show _ ∧ _
    refine ⟨by rw [bvs_len, List.length_append, hr.len, hr2.len, Nat.mul_one], .inr ⟨w.heap.size, _, _, rfl, Nat.le_refl _, heap_alloc_new w.drew _, hge, hcm, ?_, ?_⟩⟩
    · simp only [Array.size_append, List.size_toArray, size_zeroCells, bvs_len, hr.len, hr2.len]
      show n + m + _ * 1 = _
      omega
    · have e1 : bvs (xs ++ ys) = bvs xs ++ bvs ys := by unfold bvs; rw [List.map_append]
      simp only [Array.toList_append, List.append_assoc]
      rw [← List.append_assoc, e1]
      exact List.take_left' (by rw [List.length_append, bvs_len, bvs_len, hr.len, hr2.len, Nat.mul_one])
  · exact ⟨rfl, rfl, rfl, by simp, fun k hk => Below.heap_alloc w.drew _ k hk⟩
end Go.Mtl
