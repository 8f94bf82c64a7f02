/- Plain mathematics of complete packets that are built: which may be, what is wrong, their bytes; built packets read back. -/
import Derived.Test.YtapcjjhbdhkhhaaDoorWirM
import Derived.Test.YtapcjjhbdhkhhaaDoorTcpN
import Derived.Test.YtapcjjhbdhkhhaaDoorIpO
set_option linter.unusedVariables false
namespace Go.Proofs.YtapcjjhbdhkhhaaDoor
open Go.Mtl
namespace PacM
open IpM (word four hs tl word_lt four_lt errN body packB packB_len)
open TcpM (errT saneB seg seg_len)
open UdpM (errU dat dat_len)
open IcM (errI echoB msg msg_len)
open WirM (errW spN dpN flN kdN)

/-- A packet that may be. -/
def goodB (pr sp dp fl kd : Nat) : Bool :=
  if pr = 6 then saneB fl && decide (fl < 64) && decide (kd = 0) else if pr = 17 then decide (fl = 0) && decide (kd = 0) else if pr = 1 then echoB kd && decide (fl = 0) && decide (sp = dp) else false
theorem good_tcp {pr sp dp fl kd : Nat} (h : goodB pr sp dp fl kd = true) (h6 : pr = 6) : saneB fl = true ∧ fl < 64 ∧ kd = 0 := by
  subst h6; simpa [goodB, and_assoc] using h
theorem good_udp {pr sp dp fl kd : Nat} (h : goodB pr sp dp fl kd = true) (h17 : pr = 17) : fl = 0 ∧ kd = 0 := by
  subst h17; simpa [goodB, and_assoc] using h
theorem good_icmp {pr sp dp fl kd : Nat} (h : goodB pr sp dp fl kd = true) (h1 : pr = 1) : echoB kd = true ∧ fl = 0 ∧ sp = dp := by
  subst h1; simpa [goodB, and_assoc] using h
theorem good_one {pr sp dp fl kd : Nat} (h : goodB pr sp dp fl kd = true) : pr = 6 ∨ pr = 17 ∨ pr = 1 := by
  unfold goodB at h
  by_cases a : pr = 6
  · exact .inl a
  · by_cases b : pr = 17
    · exact .inr (.inl b)
    · by_cases c : pr = 1
      · exact .inr (.inr c)
      · rw [if_neg a, if_neg b, if_neg c] at h; cases h

/-- The longest content; what is behind the header; all bytes. -/
def mx (pr : Nat) : Nat := if pr = 6 then 1460 else 1472
def inner (pr sr ds sp dp fl kd : Nat) (x : List UInt8) : List UInt8 := if pr = 6 then seg sr ds sp dp fl x else if pr = 17 then dat sr ds sp dp x else msg kd sp x
def whole (pr sr ds sp dp fl kd : Nat) (x : List UInt8) : List UInt8 := packB 0 64 pr sr ds (inner pr sr ds sp dp fl kd x)
def errP (pr sp dp fl kd n : Nat) : Nat := if goodB pr sp dp fl kd = true then (if mx pr < n then 2 else 0) else 1
theorem errP_le (pr sp dp fl kd n : Nat) : errP pr sp dp fl kd n ≤ 2 := by unfold errP; (repeat' split) <;> omega
theorem errP_zero {pr sp dp fl kd n : Nat} (h : errP pr sp dp fl kd n = 0) : goodB pr sp dp fl kd = true ∧ n ≤ mx pr := by
  unfold errP at h
  by_cases g : goodB pr sp dp fl kd = true
  · rw [if_pos g] at h
    by_cases k : mx pr < n
    · rw [if_pos k] at h; cases h
    · exact ⟨g, by omega⟩
  · rw [if_neg g] at h; cases h
theorem errP_ok {pr sp dp fl kd n : Nat} (g : goodB pr sp dp fl kd = true) (h : n ≤ mx pr) : errP pr sp dp fl kd n = 0 := by unfold errP; rw [if_pos g, if_neg (by omega)]
theorem errP_long {pr sp dp fl kd n : Nat} (g : goodB pr sp dp fl kd = true) (h : mx pr < n) : errP pr sp dp fl kd n = 2 := by unfold errP; rw [if_pos g, if_pos h]
theorem errP_bad {pr sp dp fl kd n : Nat} (g : goodB pr sp dp fl kd = false) : errP pr sp dp fl kd n = 1 := by unfold errP; rw [if_neg (by rw [g]; simp)]
def out (pr sr ds sp dp fl kd : Nat) (x : List UInt8) : List UInt8 := if errP pr sp dp fl kd x.length = 0 then whole pr sr ds sp dp fl kd x else []
theorem out_ok {pr sr ds sp dp fl kd : Nat} {x : List UInt8} (h : errP pr sp dp fl kd x.length = 0) : out pr sr ds sp dp fl kd x = whole pr sr ds sp dp fl kd x := by unfold out; rw [if_pos h]
theorem out_bad {pr sr ds sp dp fl kd : Nat} {x : List UInt8} (h : errP pr sp dp fl kd x.length ≠ 0) : out pr sr ds sp dp fl kd x = [] := by unfold out; rw [if_neg h]
theorem mx_le (pr : Nat) : 1460 ≤ mx pr ∧ mx pr ≤ 1472 := by unfold mx; split <;> omega

theorem inner_len {pr sr ds sp dp fl kd : Nat} {x : List UInt8} (h : x.length ≤ mx pr) : (inner pr sr ds sp dp fl kd x).length ≤ 1480 := by
  unfold inner
  unfold mx at h
  by_cases a : pr = 6
  · rw [if_pos a] at h ⊢; rw [seg_len]; omega
  · rw [if_neg a] at h ⊢
    by_cases b : pr = 17
    · rw [if_pos b, dat_len]; omega
    · rw [if_neg b, msg_len]; omega
theorem whole_len {pr sr ds sp dp fl kd : Nat} {x : List UInt8} (h : x.length ≤ mx pr) : (whole pr sr ds sp dp fl kd x).length ≤ 1500 := by
  have := inner_len (sr := sr) (ds := ds) (sp := sp) (dp := dp) (fl := fl) (kd := kd) h
  unfold whole; rw [packB_len]; omega
theorem out_len (pr sr ds sp dp fl kd : Nat) (x : List UInt8) : (out pr sr ds sp dp fl kd x).length ≤ 1500 := by
  by_cases h : errP pr sp dp fl kd x.length = 0
  · rw [out_ok h]; exact whole_len (errP_zero h).2
  · rw [out_bad h]; simp

/-- A packet that may be, read back. -/
theorem whole_is {pr sr ds sp dp fl kd : Nat} {x : List UInt8} (h : errP pr sp dp fl kd x.length = 0) (hpr : pr < 256) (hsr : sr < 4294967296) (hds : ds < 4294967296) (hsp : sp < 65536) (hdp : dp < 65536) (hkd : kd < 256) :
    errW (whole pr sr ds sp dp fl kd x) = 0 ∧ byt (whole pr sr ds sp dp fl kd x) 9 = pr ∧ four (whole pr sr ds sp dp fl kd x) 12 = sr ∧ four (whole pr sr ds sp dp fl kd x) 16 = ds ∧
    spN (whole pr sr ds sp dp fl kd x) = sp ∧ dpN (whole pr sr ds sp dp fl kd x) = dp ∧ flN (whole pr sr ds sp dp fl kd x) = fl ∧ kdN (whole pr sr ds sp dp fl kd x) = kd := by
  obtain ⟨g, hl⟩ := errP_zero h
  have hi := inner_len (sr := sr) (ds := ds) (sp := sp) (dp := dp) (fl := fl) (kd := kd) hl
  obtain ⟨z, hz⟩ : ∃ z, inner pr sr ds sp dp fl kd x = z := ⟨_, rfl⟩
  have e0 : errN (whole pr sr ds sp dp fl kd x) = 0 := by have := IpM.pack_err 0 64 pr sr ds (inner pr sr ds sp dp fl kd x) [] (by simp; omega); rwa [List.append_nil] at this
  have e9 : byt (whole pr sr ds sp dp fl kd x) 9 = pr := by have := IpM.pack_pr 0 64 pr sr ds (inner pr sr ds sp dp fl kd x) [] hpr; rwa [List.append_nil] at this
  have e12 : four (whole pr sr ds sp dp fl kd x) 12 = sr := by have := IpM.pack_src 0 64 pr sr ds (inner pr sr ds sp dp fl kd x) [] hsr; rwa [List.append_nil] at this
  have e16 : four (whole pr sr ds sp dp fl kd x) 16 = ds := by have := IpM.pack_dst 0 64 pr sr ds (inner pr sr ds sp dp fl kd x) [] hds; rwa [List.append_nil] at this
  have eb : body (whole pr sr ds sp dp fl kd x) = inner pr sr ds sp dp fl kd x := by have := IpM.pack_body 0 64 pr sr ds (inner pr sr ds sp dp fl kd x) [] (by omega); rwa [List.append_nil] at this
  generalize whole pr sr ds sp dp fl kd x = bs at *
  unfold mx at hl
  rcases good_one g with h6 | h17 | h1
  · obtain ⟨gs, gf, gk⟩ := good_tcp g h6
    have ei : body bs = seg sr ds sp dp fl x := by rw [eb]; unfold inner; rw [if_pos h6]
    refine ⟨?_, e9, e12, e16, ?_, ?_, ?_, ?_⟩
    · rw [WirM.errW_tcp e0 (by omega), e12, e16, ei]; exact TcpM.seg_err _ _ _ _ _ _ (by omega) gs
    · unfold spN; rw [if_neg (by omega), ei]; exact TcpM.seg_from _ _ _ _ _ hsp
    · unfold dpN; rw [if_neg (by omega), ei]; exact TcpM.seg_to _ _ _ _ _ hdp
    · unfold flN; rw [if_pos (by omega), ei]; unfold seg; rw [TcpM.seg_flags _ _ _ _ _ (by omega)]; omega
    · unfold kdN; rw [if_neg (by omega), gk]
  · obtain ⟨gf, gk⟩ := good_udp g h17
    have ei : body bs = dat sr ds sp dp x := by rw [eb]; unfold inner; rw [if_neg (by omega), if_pos h17]
    rw [if_neg (by omega)] at hl
    refine ⟨?_, e9, e12, e16, ?_, ?_, ?_, ?_⟩
    · rw [WirM.errW_udp e0 (by omega), e12, e16, ei]; have := UdpM.dat_err sr ds sp dp x [] (by omega); rwa [List.append_nil] at this
    · unfold spN; rw [if_neg (by omega), ei]; exact UdpM.dat_from _ _ _ _ hsp
    · unfold dpN; rw [if_neg (by omega), ei]; exact UdpM.dat_to _ _ _ _ hdp
    · unfold flN; rw [if_neg (by omega), gf]
    · unfold kdN; rw [if_neg (by omega), gk]
  · obtain ⟨ge, gf, gp⟩ := good_icmp g h1
    have ei : body bs = msg kd sp x := by rw [eb]; unfold inner; rw [if_neg (by omega), if_neg (by omega)]
    refine ⟨?_, e9, e12, e16, ?_, ?_, ?_, ?_⟩
    · rw [WirM.errW_icmp e0 (by omega), ei]; exact IcM.msg_err _ _ _ hkd ge
    · unfold spN; rw [if_pos (by omega), ei]; exact IcM.msg_id _ _ _ _ hsp
    · unfold dpN; rw [if_pos (by omega), ei, ← gp]; exact IcM.msg_id _ _ _ _ hsp
    · unfold flN; rw [if_neg (by omega), gf]
    · unfold kdN; rw [if_pos (by omega), ei]; exact IcM.msg_kind _ _ _ _ hkd

/-- What came may go out again. -/
theorem good_of_parsed {bs : List UInt8} (h : errW bs = 0) : goodB (byt bs 9) (spN bs) (dpN bs) (flN bs) (kdN bs) = true := by
  obtain ⟨h0, h9⟩ := WirM.errW_zero h
  rcases h9 with h9 | h9 | h9
  · have hs := WirM.errT_sane ((WirM.errW_tcp h0 h9).symm.trans h)
    rw [TcpM.sane_low _ (byt_lt _ _)] at hs
    have hf : flN bs = byt (body bs) 13 % 64 := by unfold flN; rw [if_pos h9]
    have hk : kdN bs = 0 := by unfold kdN; rw [if_neg (by omega)]
    have := WirM.flN_lt bs
    unfold goodB
    rw [if_pos h9, hk, hf, hs]
    simp; omega
  · have hf : flN bs = 0 := by unfold flN; rw [if_neg (by omega)]
    have hk : kdN bs = 0 := by unfold kdN; rw [if_neg (by omega)]
    unfold goodB
    rw [if_neg (by omega), if_pos h9, hf, hk]; rfl
  · have hf : flN bs = 0 := by unfold flN; rw [if_neg (by omega)]
    have hp : spN bs = dpN bs := by unfold spN dpN; rw [if_pos h9, if_pos h9]
    have hk : echoB (kdN bs) = true := by rcases WirM.kinds h h9 with e | e <;> rw [e] <;> rfl
    unfold goodB
    rw [if_neg (by omega), if_neg (by omega), if_pos h9, hf, hp, hk]; simp

/-- Unlike packets have unlike bytes. -/
theorem unlike {pr sr ds sp dp fl kd pr' sr' ds' sp' dp' fl' kd' : Nat} {x y : List UInt8} (h : errP pr sp dp fl kd x.length = 0) (h' : errP pr' sp' dp' fl' kd' y.length = 0)
    (hpr : pr < 256) (hsr : sr < 4294967296) (hds : ds < 4294967296) (hsp : sp < 65536) (hdp : dp < 65536) (hkd : kd < 256)
    (hpr' : pr' < 256) (hsr' : sr' < 4294967296) (hds' : ds' < 4294967296) (hsp' : sp' < 65536) (hdp' : dp' < 65536) (hkd' : kd' < 256)
    (he : whole pr sr ds sp dp fl kd x = whole pr' sr' ds' sp' dp' fl' kd' y) : pr = pr' ∧ sr = sr' ∧ ds = ds' ∧ sp = sp' ∧ dp = dp' ∧ fl = fl' ∧ kd = kd' := by
  obtain ⟨a0, a1, a2, a3, a4, a5, a6, a7⟩ := whole_is h hpr hsr hds hsp hdp hkd
  obtain ⟨b0, b1, b2, b3, b4, b5, b6, b7⟩ := whole_is h' hpr' hsr' hds' hsp' hdp' hkd'
  rw [← he] at b1 b2 b3 b4 b5 b6 b7
  exact ⟨a1.symm.trans b1, a2.symm.trans b2, a3.symm.trans b3, a4.symm.trans b4, a5.symm.trans b5, a6.symm.trans b6, a7.symm.trans b7⟩

/-- The packet of the fixed fact. -/
theorem aw_good : goodB 17 3 4 0 0 = true := rfl
theorem aw_bad : goodB 2 0 0 0 0 = false := rfl
theorem aw_len (sr ds sp dp : Nat) (x : List UInt8) (h : x.length = 3) : (whole 17 sr ds sp dp 0 0 x).length = 31 := by
  unfold whole inner; rw [packB_len, if_neg (by omega), if_pos rfl, dat_len, h]
/-- Flags that a packet has no place for. -/
theorem ignored (f : Nat) (h : f < 256) : (f &&& 192 = 0) ↔ f < 64 := by
  have : ∀ f : Fin 256, (f.val &&& 192 = 0) ↔ f.val < 64 := by decide +kernel
  exact this ⟨f, h⟩

end PacM
end Go.Proofs.YtapcjjhbdhkhhaaDoor
