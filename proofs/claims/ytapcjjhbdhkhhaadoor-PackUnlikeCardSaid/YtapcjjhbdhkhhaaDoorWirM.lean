/- Plain mathematics of complete packets: what is wrong with them, what counts of them; bytes behind their end do not count. -/
import Derived.Test.YtapcjjhbdhkhhaaDoorTcpM
import Derived.Test.YtapcjjhbdhkhhaaDoorUdpM
import Derived.Test.YtapcjjhbdhkhhaaDoorIcmpM
set_option linter.unusedVariables false
namespace Go.Proofs.YtapcjjhbdhkhhaaDoor
open Go.Mtl
namespace WirM
open IpM (word four hs tl word_lt four_lt errC errN body errN_le)
open TcpM (errT errT_le saneB)
open UdpM (errU errU_le)
open IcM (errI errI_le)

/-- What is wrong with the content; with the whole. -/
def inE (bs : List UInt8) : Nat :=
  if byt bs 9 = 6 then errT (four bs 12) (four bs 16) (body bs) else if byt bs 9 = 17 then errU (four bs 12) (four bs 16) (body bs) else if byt bs 9 = 1 then errI (body bs) else 9
def errW (bs : List UInt8) : Nat := if errN bs = 0 then inE bs else errN bs
theorem errW_le (bs : List UInt8) : errW bs ≤ 11 := by
  have a := errN_le bs
  have b := errT_le (four bs 12) (four bs 16) (body bs)
  have c := errU_le (four bs 12) (four bs 16) (body bs)
  have d := errI_le (body bs)
  unfold errW inE; (repeat' split) <;> omega
/-- The two ports, the flags, the kind. -/
def spN (bs : List UInt8) : Nat := if byt bs 9 = 1 then word (body bs) 4 else word (body bs) 0
def dpN (bs : List UInt8) : Nat := if byt bs 9 = 1 then word (body bs) 4 else word (body bs) 2
def flN (bs : List UInt8) : Nat := if byt bs 9 = 6 then byt (body bs) 13 % 64 else 0
def kdN (bs : List UInt8) : Nat := if byt bs 9 = 1 then byt (body bs) 0 else 0
theorem spN_lt (bs : List UInt8) : spN bs < 65536 := by have := word_lt (body bs) 4; have := word_lt (body bs) 0; unfold spN; split <;> omega
theorem dpN_lt (bs : List UInt8) : dpN bs < 65536 := by have := word_lt (body bs) 4; have := word_lt (body bs) 2; unfold dpN; split <;> omega
theorem flN_lt (bs : List UInt8) : flN bs < 64 := by unfold flN; split <;> omega
theorem kdN_lt (bs : List UInt8) : kdN bs < 256 := by have := byt_lt (body bs) 0; unfold kdN; split <;> omega

theorem errW_ip {bs : List UInt8} (h : errN bs ≠ 0) : errW bs = errN bs := by unfold errW; rw [if_neg h]
theorem errW_tcp {bs : List UInt8} (h : errN bs = 0) (h9 : byt bs 9 = 6) : errW bs = errT (four bs 12) (four bs 16) (body bs) := by unfold errW inE; rw [if_pos h, if_pos h9]
theorem errW_udp {bs : List UInt8} (h : errN bs = 0) (h9 : byt bs 9 = 17) : errW bs = errU (four bs 12) (four bs 16) (body bs) := by unfold errW inE; rw [if_pos h, if_neg (by omega), if_pos h9]
theorem errW_icmp {bs : List UInt8} (h : errN bs = 0) (h9 : byt bs 9 = 1) : errW bs = errI (body bs) := by unfold errW inE; rw [if_pos h, if_neg (by omega), if_neg (by omega), if_pos h9]
theorem errW_other {bs : List UInt8} (h : errN bs = 0) (h6 : byt bs 9 ≠ 6) (h17 : byt bs 9 ≠ 17) (h1 : byt bs 9 ≠ 1) : errW bs = 9 := by unfold errW inE; rw [if_pos h, if_neg h6, if_neg h17, if_neg h1]
/-- Where nothing is wrong. -/
theorem errW_zero {bs : List UInt8} (h : errW bs = 0) : errN bs = 0 ∧ (byt bs 9 = 6 ∨ byt bs 9 = 17 ∨ byt bs 9 = 1) := by
  by_cases h0 : errN bs = 0
  · refine ⟨h0, ?_⟩
    by_cases a : byt bs 9 = 6
    · exact .inl a
    · by_cases b : byt bs 9 = 17
      · exact .inr (.inl b)
      · by_cases d : byt bs 9 = 1
        · exact .inr (.inr d)
        · have := errW_other h0 a b d; omega
  · have := errW_ip h0; omega

theorem byt_app (a b : List UInt8) (i : Nat) (h : i < a.length) : byt (a ++ b) i = byt a i := by unfold byt; simp [List.getD, List.getElem?_append_left h]
theorem word_app (a b : List UInt8) (i : Nat) (h : i + 1 < a.length) : word (a ++ b) i = word a i := by
  unfold word; rw [byt_app _ _ _ (by omega), byt_app _ _ _ (by omega)]
theorem four_app (a b : List UInt8) (i : Nat) (h : i + 3 < a.length) : four (a ++ b) i = four a i := by
  unfold four; rw [word_app _ _ _ (by omega), word_app _ _ _ (by omega)]
/-- Bytes behind the end. -/
theorem behind_ip {bs : List UInt8} (y : List UInt8) (h : errN bs = 0) (hl : bs.length + y.length ≤ 1500) :
    errN (bs ++ y) = 0 ∧ byt (bs ++ y) 9 = byt bs 9 ∧ four (bs ++ y) 12 = four bs 12 ∧ four (bs ++ y) 16 = four bs 16 ∧ body (bs ++ y) = body bs := by
  obtain ⟨p1, p2, he⟩ := IpM.errN_zero h
  obtain ⟨h1, h2, h3, h4, h5, h6, h7⟩ := IpM.errC_zero he
  have b0 : byt (bs ++ y) 0 = byt bs 0 := byt_app _ _ _ (by omega)
  have hh : hs (bs ++ y) = hs bs := by unfold hs; rw [b0]
  have ht : tl (bs ++ y) = tl bs := by unfold tl; rw [word_app _ _ _ (by omega)]
  have w6 : word (bs ++ y) 6 = word bs 6 := word_app _ _ _ (by omega)
  refine ⟨?_, byt_app _ _ _ (by omega), four_app _ _ _ (by omega), four_app _ _ _ (by omega), ?_⟩
  · unfold errN
    rw [if_neg (by rw [List.length_append]; omega), if_neg (by rw [List.length_append]; omega)]
    unfold errC
    rw [b0, hh, ht, w6, List.length_append, List.take_append_of_le_length h3, if_neg (by omega), if_neg (by omega), if_neg (by omega), if_neg (by omega), if_neg (by omega)]
  · unfold body
    rw [hh, ht, List.drop_append_of_le_length h3, List.take_append_of_le_length (by rw [List.length_drop]; omega)]
theorem behind {bs : List UInt8} (y : List UInt8) (h : errW bs = 0) (hl : bs.length + y.length ≤ 1500) :
    errW (bs ++ y) = 0 ∧ byt (bs ++ y) 9 = byt bs 9 ∧ four (bs ++ y) 12 = four bs 12 ∧ four (bs ++ y) 16 = four bs 16 ∧ spN (bs ++ y) = spN bs ∧ dpN (bs ++ y) = dpN bs ∧ flN (bs ++ y) = flN bs ∧ kdN (bs ++ y) = kdN bs := by
  obtain ⟨h0, h9⟩ := errW_zero h
  obtain ⟨e, e9, e12, e16, eb⟩ := behind_ip y h0 hl
  refine ⟨?_, e9, e12, e16, ?_, ?_, ?_, ?_⟩
  · have := h
    unfold errW at this ⊢
    rw [if_pos h0] at this
    rw [if_pos e]
    unfold inE at this ⊢
    rw [e9, e12, e16, eb]
    exact this
  · unfold spN; rw [e9, eb]
  · unfold dpN; rw [e9, eb]
  · unfold flN; rw [e9, eb]
  · unfold kdN; rw [e9, eb]

/-- The flags of an accepted segment go together. -/
theorem sane_sane : ∀ f : Fin 64, saneB f.val = true → ((f.val &&& 7) &&& (((f.val &&& 7) + 255) % 256)) = 0 ∧ f.val &&& 22 ≠ 0 := by decide +kernel
theorem errT_sane {sr ds : Nat} {bs : List UInt8} (h : errT sr ds bs = 0) : saneB (byt bs 13) = true := by
  unfold errT at h
  split at h
  · cases h
  split at h
  · cases h
  split at h
  · cases h
  split at h
  · cases h
  split at h
  · assumption
  · cases h
theorem flags {bs : List UInt8} (h : errW bs = 0) (h9 : byt bs 9 = 6) : (flN bs &&& 7) &&& (((flN bs &&& 7) + 255) % 256) = 0 ∧ flN bs &&& 22 ≠ 0 := by
  obtain ⟨h0, _⟩ := errW_zero h
  rw [errW_tcp h0 h9] at h
  have hs := errT_sane h
  have := TcpM.sane_low (byt (body bs) 13) (byt_lt _ _)
  rw [this] at hs
  have hf : flN bs = byt (body bs) 13 % 64 := by unfold flN; rw [if_pos h9]
  rw [hf]
  exact sane_sane ⟨_, Nat.mod_lt _ (by omega)⟩ hs
theorem kinds {bs : List UInt8} (h : errW bs = 0) (h9 : byt bs 9 = 1) : kdN bs = 8 ∨ kdN bs = 0 := by
  obtain ⟨h0, _⟩ := errW_zero h
  rw [errW_icmp h0 h9] at h
  have hf : kdN bs = byt (body bs) 0 := by unfold kdN; rw [if_pos h9]
  rw [hf]
  exact IcM.errI_echo h

/-- The fixed packet of the fixed fact. -/
def pk0 : List UInt8 := [69, 0, 0, 28, 0, 0, 0, 0, 64, 17, 102, 207, 10, 0, 0, 1, 10, 0, 0, 2, 0, 7, 0, 9, 0, 8, 0, 0]
theorem pk0_err : errW pk0 = 0 := by decide +kernel
theorem pk0_is : byt pk0 9 = 17 ∧ four pk0 12 = 167772161 ∧ four pk0 16 = 167772162 ∧ spN pk0 = 7 ∧ dpN pk0 = 9 ∧ flN pk0 = 0 ∧ kdN pk0 = 0 := by decide +kernel
theorem one_err : errW [69] = 4 := by decide +kernel

end WirM
end Go.Proofs.YtapcjjhbdhkhhaaDoor
