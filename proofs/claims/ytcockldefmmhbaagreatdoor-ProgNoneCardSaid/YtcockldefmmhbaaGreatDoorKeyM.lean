import Derived.Laws.BitsAllLaws
set_option linter.unusedVariables false
namespace Go.Proofs.YtcockldefmmhbaaGreatDoor
namespace KeyM
def lowB (a p b q:Nat):Bool:=decide (a < b\/(a=b/\p < q))
theorem lowB_ne {a p b q:Nat} (h:a≠b):lowB a p b q=decide (a < b):=decide_eq_decide.2 (by omega)
theorem lowB_eq {a p q:Nat}:lowB a p a q=decide (p < q):=decide_eq_decide.2 (by omega)
def step (h b:Nat):Nat:=(h ^^^ b) * 16777619 % 4294967296
theorem mod_bd (x:Nat):x % 4294967296 < 4294967296:=by omega
theorem mod_bd8 (x:Nat):x % 256 < 256:=by omega
theorem step_lt (h b:Nat):step h b < 4294967296:=by unfold step;exact mod_bd _
def byteN (n i:Nat):Nat:=n / 256 ^ i % 256
theorem byteN_lt (n i:Nat):byteN n i < 256:=by unfold byteN;exact mod_bd8 _
def mixS (s:Nat->Nat->Nat) (n:Nat):Nat->Nat->Nat
 | 0,h=>h
 | k+1,h=>mixS s n k (s h (byteN n k))
section
variable (s:Nat->Nat->Nat)
theorem mixS_lt (hs:∀ h b,s h b < 4294967296) (n k h:Nat) (hh:h < 4294967296):mixS s n k h < 4294967296:=by
 induction k generalizing h with
 | zero=>exact hh
 | succ k ih=>exact ih _ (hs _ _)
theorem mixS_succ (n k h:Nat):mixS s n (k+1) h=mixS s n k (s h (byteN n k)):=rfl
def hashS (h0 a b p q r:Nat):Nat:=mixS s q 2 (mixS s b 4 (mixS s p 2 (mixS s a 4 (mixS s r 1 h0))))
end
abbrev mixN (n k h:Nat):Nat:=mixS step n k h
theorem mixN_lt (n k h:Nat) (hh:h < 4294967296):mixN n k h < 4294967296:=mixS_lt step step_lt n k h hh
theorem hashS_steps (s:Nat->Nat->Nat) {h0 a b p q r m0 m1 m2 m3 m4:Nat} (e0:mixS s r 1 h0=m0) (e1:mixS s a 4 m0=m1) (e2:mixS s p 2 m1=m2) (e3:mixS s b 4 m2=m3) (e4:mixS s q 2 m3=m4):hashS s h0 a b p q r=m4:=by
 subst e0 e1 e2 e3 e4;rfl
def hashN (a b p q r:Nat):Nat:=hashS step 2166136261 a b p q r
theorem hashS_lt (s:Nat->Nat->Nat) (hs:∀ h b,s h b < 4294967296) (h0 a b p q r:Nat) (hh:h0 < 4294967296):hashS s h0 a b p q r < 4294967296 :=
 mixS_lt s hs _ _ _ (mixS_lt s hs _ _ _ (mixS_lt s hs _ _ _ (mixS_lt s hs _ _ _ (mixS_lt s hs _ _ _ hh))))
theorem hashN_steps {a b p q r m0 m1 m2 m3 m4:Nat} (e0:mixN r 1 2166136261=m0) (e1:mixN a 4 m0=m1) (e2:mixN p 2 m1=m2) (e3:mixN b 4 m2=m3) (e4:mixN q 2 m3=m4):hashN a b p q r=m4:=hashS_steps step e0 e1 e2 e3 e4
theorem hashN_lt (a b p q r:Nat):hashN a b p q r < 4294967296:=hashS_lt step step_lt _ a b p q r (by decide)
def isPow (s:Int):Bool:=decide (s ∈ [1,2,4,8,16,32,64,128,256,512,1024,2048,4096])
def strN (h:Nat) (s:Int):Int:=if isPow s=true then (h:Int) % s else 0
theorem isPow_bd {s:Int} (h:isPow s=true):1<=s/\s<=4096:=by
 have:s ∈ [1,2,4,8,16,32,64,128,256,512,1024,2048,4096]:=by simpa [isPow] using h
 simp only [List.mem_cons,List.not_mem_nil,or_false] at this
 omega
set_option maxRecDepth 100000 in
theorem pow_and_fin:∀ n:Fin 4096,(((n.val+1) &&& n.val) == 0)=isPow ((n.val+1:Nat):Int):=by decide +kernel
theorem pow_and (n:Nat) (h1:1<=n) (h2:n<=4096):((n &&& (n - 1)) == 0)=isPow (n:Int):=by
 have:=pow_and_fin ⟨n - 1,by omega⟩
 simp only [show n - 1+1=n by omega] at this
 exact this
theorem strN_no {h:Nat} {s:Int} (hs:isPow s=false):strN h s=0:=by unfold strN;rw [if_neg (by rw [hs];decide)]
theorem strN_yes {h:Nat} {s:Int} (hs:isPow s=true):strN h s=(h:Int) % s:=by unfold strN;rw [if_pos hs]
theorem isPow_out {s:Int} (h:s < 1\/4096 < s):isPow s=false:=by
 rcases e:isPow s with _ | _
 ·rfl
 ·have:=isPow_bd e;omega
def lessB (a b p q r a2 b2 p2 q2 r2:Nat):Bool:=if r≠r2 then decide (r < r2) else if a≠a2\/p≠p2 then lowB a p a2 p2 else lowB b q b2 q2
def keyN (a b p q r:Nat):Nat:=((r * 281474976710656+(a * 65536+p)) * 281474976710656)+(b * 65536+q)
theorem keyN_inj {a b p q r a2 b2 p2 q2 r2:Nat} (ha:a < 4294967296) (hb:b < 4294967296) (hp:p < 65536) (hq:q < 65536) (ha2:a2 < 4294967296) (hb2:b2 < 4294967296) (hp2:p2 < 65536) (hq2:q2 < 65536)
  (h:keyN a b p q r=keyN a2 b2 p2 q2 r2):a=a2/\b=b2/\p=p2/\q=q2/\r=r2:=by
 unfold keyN at h;omega
end KeyM
end Go.Proofs.YtcockldefmmhbaaGreatDoor
