/- Several texts of this proof in one file, each in its own namespace. -/
import Derived.Test.YtcockldefmmhbaaGreatDoorJ12
import Derived.Test.YtcockldefmmhbaaGreatDoorJ13
import Derived.Test.YtcockldefmmhbaaGreatDoorJ24
import Derived.Test.YtcockldefmmhbaaGreatDoorJ30
import Derived.Laws.CopyOwn
import Derived.Deep.RegionLaw
import Derived.Deep.RegionHeldLaw
import Derived.FnData
import Derived.Deep.QuietTactic
import Derived.Test.YtcockldefmmhbaaGreatDoorJ25
set_option linter.unusedVariables false
set_option maxRecDepth 100000
namespace Go.Proofs.YtcockldefmmhbaaGreatDoor
open Go.ChangeShapes Go.WideShapes Go.ChangeAt Go.RowKit Go.Mtl
namespace Ip
open IpM (word four hs tl word_lt four_lt errC errN body)
open Fld (numI numI_zero numI_step)
theorem ret_int {k:IntKind} {a b:Int} (h:a=b):Ending.returned (.int k a) = .returned (.int k b):=by rw [h]
theorem num_word (bs:List UInt8) (a:Nat) (h:a+2<=bs.length):numI bs a 2=(word bs a:Nat):=by
 rw [numI_step _ _ 1 (by omega),numI_step _ _ 0 (by omega),numI_zero];unfold word;simp
theorem num_four (bs:List UInt8) (a:Nat) (h:a+4<=bs.length):numI bs a 4=(four bs a:Nat):=by
 rw [numI_step _ _ 3 (by omega),numI_step _ _ 2 (by omega),num_word _ _ (by omega)];unfold four word;simp [Nat.add_assoc];omega
theorem number_any (A:Option Addr) (n c:Nat) (bs:List UInt8) (B:Nat) (a s:Nat) (v:Nat) (W:World) (hb:Bts W B A n bs) (hc:n<=c) (hm:c<=9223372036854775807) (h1:1<=s) (h2:s<=8) (h3:a+s<=n) (hv:numI bs a s=(v:Int)) :
  Calls Tryz.prog 186 #[.slice A n c,.int .i64 (a:Int),.int .i64 (s:Int)] W fun e w'=>e = .returned (.int .u64 (v:Int))/\W=w':=by
 obtain ⟨b,off,rfl,hlt,hcell⟩:=hb.at_ (by omega)
 have C:=Fld.num_yes b off n c bs a s hb.len hc hm h1 h2 h3 W hcell
 rw [hv] at C
 have HC:=Lib.hid C
 clear C hcell hv hb
 go_enter Tryz.func186,Tryz.ntmps186
 go_wp2_with (go_at_call 190;refine HC.out.mono ?_;rintro e w' ⟨rfl,rfl⟩)
 go_ret
 exact ⟨rfl,rfl⟩
abbrev headV (bs:List UInt8):Value:=.agg #[.int .u8 (byt bs 9:Int),.int .u32 (four bs 12:Int),.int .u32 (four bs 16:Int),.int .i64 (hs bs:Int),.int .i64 (tl bs:Int),.int .u8 (byt bs 8:Int),.int .u16 (word bs 4:Int)]
abbrev cells7 (a b c d e f h:Int):Array Value:=#[.int .u8 a,.int .u32 b,.int .u32 c,.int .i64 d,.int .i64 e,.int .u8 f,.int .u16 h]
def Hd (w:World) (g:Nat) (a b c d e f h:Int):Prop:=w.heap[g]? = some (.cells (cells7 a b c d e f h) 156 (0,0))
section
variable {w w':World} {g:Nat} {a b c d e f h:Int}
theorem Hd.box (w:World) (a b c d e f h:Int):Hd (w.alloc (.cells (cells7 a b c d e f h) 156)) w.heap.size a b c d e f h:=heap_alloc_new w _
theorem Hd.lt (H:Hd w g a b c d e f h):g < w.heap.size:=by
 rcases Nat.lt_or_ge g w.heap.size with hlt | hge
 ·exact hlt
 ·unfold Hd at H;rw [Array.getElem?_eq_none hge] at H;cases H
theorem Hd.keep (H:Hd w g a b c d e f h) (hk:w'.heap[g]? = w.heap[g]?):Hd w' g a b c d e f h:=hk.trans H
theorem Hd.below (H:Hd w g a b c d e f h) {B:Nat} (hb:Below B w w') (hg:g < B):Hd w' g a b c d e f h:=H.keep (hb.block g hg)
theorem Hd.next (H:Hd w g a b c d e f h) (hb:Below w.heap.size w w'):Hd w' g a b c d e f h:=H.keep (hb.block g H.lt)
theorem Hd.drew (H:Hd w g a b c d e f h):Hd w.drew g a b c d e f h:=H
theorem Hd.cells (H:Hd w g a b c d e f h):w.cell? ⟨g,0,none⟩=some (.int .u8 a)/\w.cell? ⟨g,1,none⟩=some (.int .u32 b)/\w.cell? ⟨g,2,none⟩=some (.int .u32 c)/\w.cell? ⟨g,3,none⟩=some (.int .i64 d) ∧
  w.cell? ⟨g,4,none⟩=some (.int .i64 e)/\w.cell? ⟨g,5,none⟩=some (.int .u8 f)/\w.cell? ⟨g,6,none⟩=some (.int .u16 h):=by
 refine ⟨?_,?_,?_,?_,?_,?_,?_⟩ <;> exact (cell_of_row w g _ _ _ _ H).trans rfl
theorem Hd.frozen (H:Hd w g a b c d e f h):w.frozen? ⟨g,0,none⟩=false/\w.frozen? ⟨g,1,none⟩=false/\w.frozen? ⟨g,2,none⟩=false/\w.frozen? ⟨g,3,none⟩=false ∧
  w.frozen? ⟨g,4,none⟩=false/\w.frozen? ⟨g,5,none⟩=false/\w.frozen? ⟨g,6,none⟩=false:=by
 refine ⟨?_,?_,?_,?_,?_,?_,?_⟩ <;> exact frozen_of_row w g _ _ _ H
abbrev store7 (w:World) (g:Nat) (a b c d e f h:Int):World :=
 ((((((w.setCell ⟨g,0,none⟩ (.int .u8 a)).setCell ⟨g,1,none⟩ (.int .u32 b)).setCell ⟨g,2,none⟩ (.int .u32 c)).setCell ⟨g,3,none⟩ (.int .i64 d)).setCell ⟨g,4,none⟩ (.int .i64 e)).setCell ⟨g,5,none⟩ (.int .u8 f)).setCell ⟨g,6,none⟩ (.int .u16 h)
theorem Hd.store (H:Hd w g a b c d e f h) (a' b' c' d' e' f' h':Int):Hd (store7 w g a' b' c' d' e' f' h') g a' b' c' d' e' f' h':=by
 have h0:=heap_setCell_same w g 0 _ _ (.int .u8 a') H
 have h1:=heap_setCell_same _ g 1 _ _ (.int .u32 b') h0
 have h2:=heap_setCell_same _ g 2 _ _ (.int .u32 c') h1
 have h3:=heap_setCell_same _ g 3 _ _ (.int .i64 d') h2
 have h4:=heap_setCell_same _ g 4 _ _ (.int .i64 e') h3
 have h5:=heap_setCell_same _ g 5 _ _ (.int .u8 f') h4
 have h6:=heap_setCell_same _ g 6 _ _ (.int .u16 h') h5
 simpa [Hd] using h6
theorem store7_block (w:World) (g k:Nat) (hk:k≠g) (a b c d e f h:Int):(store7 w g a b c d e f h).heap[k]? = w.heap[k]?:=by
 unfold store7
 repeat rw [Below.heap_setCell _ _ _ _ hk]
theorem grown_setCell (w:World) (g i:Nat) (u:Value):w.grownBy (w.setCell ⟨g,i,none⟩ u) (some g) :=
 ⟨rfl,rfl,rfl,by simp [World.setCell],fun k _ hk=>Below.heap_setCell w ⟨g,i,none⟩ u k (fun e=>hk (by rw [e]))⟩
theorem below_store7 {B:Nat} {w0 w:World} {g:Nat} (hb:Below B w0 w) (hg:B<=g) (a b c d e f h:Int):Below B w0 (store7 w g a b c d e f h) :=
 ((((((hb.setCell (p:=⟨g,0,none⟩) hg _).setCell (p:=⟨g,1,none⟩) hg _).setCell (p:=⟨g,2,none⟩) hg _).setCell (p:=⟨g,3,none⟩) hg _).setCell (p:=⟨g,4,none⟩) hg _).setCell (p:=⟨g,5,none⟩) hg _).setCell (p:=⟨g,6,none⟩) hg _
end
theorem head_any (A:Option Addr) (n c:Nat) (bs:List UInt8) (B:Nat) (W:World) (hb:Bts W B A n bs) (hB:B<=W.heap.size) (hc:n<=c) (hm:c<=9223372036854775807) (h20:20<=n) :
  Calls Tryz.prog 134 #[.slice A n c] W fun e w'=>e = .returned (headV bs)/\Below W.heap.size W w':=by
 obtain ⟨b,off,rfl,hlt,-⟩:=hb.at_ (by omega)
 have hl:=hb.len
 have N1:=Lib.hid (fun W hb=>number_any (some ⟨b,off,none⟩) n c bs B 12 4 _ W hb hc hm (by omega) (by omega) (by omega) (num_four bs 12 (by omega)))
 have N2:=Lib.hid (fun W hb=>number_any (some ⟨b,off,none⟩) n c bs B 16 4 _ W hb hc hm (by omega) (by omega) (by omega) (num_four bs 16 (by omega)))
 have N3:=Lib.hid (fun W hb=>number_any (some ⟨b,off,none⟩) n c bs B 2 2 _ W hb hc hm (by omega) (by omega) (by omega) (num_word bs 2 (by omega)))
 have N4:=Lib.hid (fun W hb=>number_any (some ⟨b,off,none⟩) n c bs B 4 2 _ W hb hc hm (by omega) (by omega) (by omega) (num_word bs 4 (by omega)))
 have HN:=Lib.hid hl
 have HB0:=Lib.hid hb
 have i0:0 < n:=by omega
 have i8:(8:Int) < n:=by omega
 have i9:(9:Int) < n:=by omega
 clear hb hl
 go_enter Tryz.func134,Tryz.ntmps134
 go_wp2
 have HB:=Lib.hid ((HB0.out.alloc hB (.cells (cells7 0 0 0 0 0 0 0) 156)).drew)
 have HZ:=Lib.hid (Hd.box W 0 0 0 0 0 0 0).drew
 have bel:=((Below.refl _ W).alloc (Nat.le_refl _) (.cells (cells7 0 0 0 0 0 0 0) 156)).drew
 obtain ⟨w1,hw1⟩:∃ w1,w1=(W.alloc (.cells (cells7 0 0 0 0 0 0 0) 156)).drew:=⟨_,rfl⟩
 refine region_still_tail 25 (by kernel_rfl) (by kernel_rfl) w1 hw1 ?_
 rw [← hw1] at HB HZ bel
 clear hw1
 simp only [List.take_succ_cons,List.take_zero,List.drop_succ_cons,List.drop_zero]
 obtain ⟨b',off',e',-,hcell⟩:=HB.out.at_ (by omega)
 obtain ⟨rfl,rfl⟩:b=b'/\off=off':=by injection e' with e';injection e' with e1 e2;exact ⟨e1,e2⟩
 have c9:=hcell 9 (by omega)
 have c0:=hcell 0 (by omega)
 rw [Nat.add_zero] at c0
 have c8:=hcell 8 (by omega)
 have n1:=Lib.hid (still_of (N1.out w1 HB.out))
 have n2:=Lib.hid (still_of (N2.out w1 HB.out))
 have n3:=Lib.hid (still_of (N3.out w1 HB.out))
 have n4:=Lib.hid (still_of (N4.out w1 HB.out))
 have hf:=four_lt bs 12
 have hf2:=four_lt bs 16
 have hw2:=word_lt bs 2
 have hw4:=word_lt bs 4
 obtain ⟨z0,z1,z2,z3,z4,z5,z6⟩:=HZ.out.cells
 obtain ⟨f0,f1,f2,f3,f4,f5,f6⟩:=HZ.out.frozen
 have hnb:=HN.out
 have w1e:IntKind.u32.wrap (four bs 12:Int)=(four bs 12:Int):=by simp [IntKind.wrap,IntKind.bits,IntKind.signed];omega
 have w2e:IntKind.u32.wrap (four bs 16:Int)=(four bs 16:Int):=by simp [IntKind.wrap,IntKind.bits,IntKind.signed];omega
 have w3e:IntKind.i64.wrap (word bs 2:Int)=(tl bs:Int):=IntWalk.i64_in _ (by omega)
 have w4e:IntKind.u16.wrap (word bs 4:Int)=(word bs 4:Int):=by simp [IntKind.wrap,IntKind.bits,IntKind.signed];omega
 have w0e:bits .and .u8 (byt bs 0:Int) 15=(byt bs 0:Int) % 16:=by have:=byt_lt bs 0;exact u8_and15 (x:=(byt bs 0:Int)) (by omega) (by omega)
 have w5e:IntKind.i64.wrap ((byt bs 0:Int) % 16)=(byt bs 0:Int) % 16:=IntWalk.i64_in _ (by omega)
 have w6e:IntKind.i64.wrap ((byt bs 0:Int) % 16 * 4)=(hs bs:Int):=by rw [IntWalk.i64_in _ (by omega)];unfold hs;omega
 clear e' hcell N1 N2 N3 N4 hnb
 repeat still_step
 still_call (n1.out)
 repeat still_step
 still_call (n2.out)
 repeat still_step
 still_call (n3.out)
 repeat still_step
 still_call (n4.out)
 repeat still_step
 refine wpStill_nil ?_
 go_wp2
 have hr:=HZ.out.store (byt bs 9) (four bs 12) (four bs 16) (hs bs) (tl bs) (byt bs 8) (word bs 4)
 obtain ⟨r0,r1,r2,r3,r4,r5,r6⟩:=hr.cells
 exact bodyPost_ret (v:=headV bs) (by simp [results,Tryz.results134,go_sem,headV,r0,r1,r2,r3,r4,r5,r6]) rfl ⟨rfl,below_store7 bel (Nat.le_refl _) _ _ _ _ _ _ _⟩
theorem u8_info:(Tryz.prog.info? 5).map (fun i=>(i.zero,i.size,i.bytes))=some (some (.int .u8 0),1,1):=by kernel_rfl
def MadeO (w:World) (n:Nat) (bs:List UInt8) (e:Ending) (w':World):Prop :=
 ∃ A c,e = .returned (.slice A n c)/\w'.ownsRow w.heap.size 5 1 (.slice A n c) n (bvs bs)/\Below w.heap.size w w'/\(n<=c/\c<=9223372036854775807)
theorem own_bts {w:World} {base n c:Nat} {A:Option Addr} {bs:List UInt8} (h:w.ownsRow base 5 1 (.slice A n c) n (bvs bs)):Bts w w.heap.size A n bs:=bts_of_own h rfl
theorem own_lit (w:World) (cs:List UInt8) (n:Nat) (hn:cs.length=n) (hm:n<=1000000) (vs:Array Value) (hv:vs=(bvs cs).toArray) :
  (w.alloc (.cells vs 5)).ownsRow w.heap.size 5 1 (.slice (some ⟨w.heap.size,0,none⟩) n n) n (bvs cs):=by
 subst hv
 simpa using World.ownsRow_lit (e:=5) (size:=1) (base:=w.heap.size) w (bvs cs).toArray n (Nat.le_refl _) (by unfold maxLen;omega) (by simp [bvs_len,hn])
def Row (w:World) (g:Nat) (bs:List UInt8):Prop:=w.heap[g]? = some (.cells (bvs bs).toArray 5 (0,0))
theorem Row.lt {w:World} {g:Nat} {bs:List UInt8} (h:Row w g bs):g < w.heap.size:=by
 rcases Nat.lt_or_ge g w.heap.size with hlt | hge
 ·exact hlt
 ·unfold Row at h;rw [Array.getElem?_eq_none hge] at h;cases h
theorem Row.bts {w:World} {g:Nat} {bs:List UInt8} (h:Row w g bs):Bts w w.heap.size (some ⟨g,0,none⟩) bs.length bs:=bts_row w g _ _ bs h rfl
def But (g:Nat) (w w':World):Prop:=w.grownBy w' (some g)
end Ip
end Go.Proofs.YtcockldefmmhbaaGreatDoor
set_option linter.unusedVariables false
set_option maxRecDepth 100000
namespace Go.Proofs.YtcockldefmmhbaaGreatDoor
open Go.ChangeShapes Go.WideShapes Go.ChangeAt Go.RowKit Go.Mtl
namespace Ip
open IpM (word four hs tl word_lt four_lt errC errN body hs_le tl_lt)
open SumM (add add_le)

theorem and_frag (x : Nat) (h : x < 65536) : bits .and .u64 (x : Int) 16383 = ((x % 16384 : Nat) : Int) := by
  have := u64_and (x : Int) 16383 (by omega) (by omega) (by omega) (by omega)
  rw [this]
  have : x &&& 16383 = x % 16384 := Nat.and_two_pow_sub_one_eq_mod x 14
  simp only [Int.toNat_natCast]
  rw [show (16383 : Int).toNat = 16383 from rfl, this]

set_option maxHeartbeats 2000000 in
theorem check_any (A : Option Addr) (n c : Nat) (bs : List UInt8) (B : Nat) (W : World) (hb : Bts W B A n bs) (hB : B ≤ W.heap.size) (hc : n ≤ c) (hm : c ≤ 9223372036854775807) (h20 : 20 ≤ n) :
    Calls Tryz.prog 135 #[.agg (cells7 (byt bs 9) (four bs 12) (four bs 16) (hs bs) (tl bs) (byt bs 8) (word bs 4)), .slice A n c] W fun e w' => e = .returned (.int .i64 (errC bs : Int)) ∧ Below W.heap.size W w' := by
  obtain ⟨b, off, rfl, hlt, -⟩ := hb.at_ (by omega)
  have hl := hb.len
  have HB := Lib.hid (hb.alloc hB (.cells (cells7 (byt bs 9) (four bs 12) (four bs 16) (hs bs) (tl bs) (byt bs 8) (word bs 4)) 156))
  obtain ⟨b', off', e', -, hcell⟩ := HB.out.at_ (by omega)
  obtain ⟨rfl, rfl⟩ : b = b' ∧ off = off' := by injection e' with e'; injection e' with e1 e2; exact ⟨e1, e2⟩
  have c0 := hcell 0 (by omega)
  rw [Nat.add_zero] at c0
  have bel := (Below.refl _ W).alloc (Nat.le_refl _) (.cells (cells7 (byt bs 9) (four bs 12) (four bs 16) (hs bs) (tl bs) (byt bs 8) (word bs 4)) 156)
  have HZ := Lib.hid (Hd.box W (byt bs 9) (four bs 12) (four bs 16) (hs bs) (tl bs) (byt bs 8) (word bs 4))
  obtain ⟨z0, z1, z2, z3, z4, z5, z6⟩ := HZ.out.cells
  have i0 : 0 < n := by omega
  have y0 := byt_lt bs 0
  have hsl := hs_le bs
  have htl := tl_lt bs
  have HL := Lib.hid hl
  clear hb hl e' hcell
  by_cases h1 : byt bs 0 / 16 = 4
  · have d1 : ((byt bs 0 : Int) / 16 != 4) = false := by simp; omega
    by_cases h2 : hs bs < 20
    · have HF : Hid (errC bs = 6) := by show _ = _; unfold errC; rw [if_neg (by omega), if_pos h2]
      clear h1
      go_enter Tryz.func135, Tryz.ntmps135
      go_wp2_with fail
      go_ret
      exact ⟨ret_int (by rw [HF.out]; rfl), bel⟩
    · by_cases h3 : n < hs bs
      · have HF : Hid (errC bs = 4) := by show _ = _; unfold errC; rw [if_neg (by omega), if_neg (by omega), if_pos (by have := HL.out; omega)]
        clear h1
        go_enter Tryz.func135, Tryz.ntmps135
        go_wp2_with fail
        go_ret
        exact ⟨ret_int (by rw [HF.out]; rfl), bel⟩
      · by_cases h4 : tl bs < hs bs
        · have HF : Hid (errC bs = 4) := by show _ = _; unfold errC; rw [if_neg (by omega), if_neg (by omega), if_pos (by have := HL.out; omega)]
          clear h1
          go_enter Tryz.func135, Tryz.ntmps135
          go_wp2_with fail
          go_ret
          exact ⟨ret_int (by rw [HF.out]; rfl), bel⟩
        · by_cases h5 : n < tl bs
          · have HF : Hid (errC bs = 4) := by show _ = _; unfold errC; rw [if_neg (by omega), if_neg (by omega), if_pos (by have := HL.out; omega)]
            clear h1
            go_enter Tryz.func135, Tryz.ntmps135
            go_wp2_with fail
            go_ret
            exact ⟨ret_int (by rw [HF.out]; rfl), bel⟩
          · have HA := Lib.hid (fun W' (hb : Bts W' B (some ⟨b, off, none⟩) n bs) => Sm.add_any 0 (some ⟨b, off, none⟩) (hs bs) c (bs.take (hs bs)) W' B (hb.front (hs bs) (by omega)) (by omega) (by omega) hm)
            have hal := add_le 0 (bs.take (hs bs))
            have HN := Lib.hid (fun W' (hb : Bts W' B (some ⟨b, off, none⟩) n bs) => number_any (some ⟨b, off, none⟩) n c bs B 6 2 _ W' hb hc hm (by omega) (by omega) (by omega) (num_word bs 6 (by have := HL.out; omega)))
            have HW := Lib.hid (and_frag (word bs 6) (word_lt bs 6))
            have HE : Hid (errC bs = if add 0 (bs.take (hs bs)) ≠ 65535 then 7 else if word bs 6 % 16384 ≠ 0 then 8 else 0) := by
              show _ = _; unfold errC; rw [if_neg (by omega), if_neg (by omega), if_neg (by have := HL.out; omega)]
            generalize add 0 (bs.take (hs bs)) = r at HA hal HE
            clear h1
            go_enter Tryz.func135, Tryz.ntmps135
            go_wp2_with fail
            go_at_call 187
            refine (HA.out _ HB.out).mono ?_
            rintro e w' ⟨rfl, rfl⟩
            by_cases h6 : r = 65535
            · have d6 : ((r : Int) != 65535) = false := by simp; omega
              by_cases h7 : word bs 6 % 16384 = 0
              · have d7 : (((word bs 6 % 16384 : Nat) : Int) != 0) = false := by simp; omega
                have HF : Hid (errC bs = 0) := by show _ = _; rw [HE.out, if_neg (by omega), if_neg (by omega)]
                clear h6 h7
                go_wp2_with fail
                go_at_call 186
                refine (HN.out _ HB.out).mono ?_
                rintro e w' ⟨rfl, rfl⟩
                have hw := HW.out
                go_wp2_with fail
                go_ret
                exact ⟨ret_int (by rw [HF.out]; rfl), bel⟩
              · have d7 : (((word bs 6 % 16384 : Nat) : Int) != 0) = true := by simp; omega
                have HF : Hid (errC bs = 8) := by show _ = _; rw [HE.out, if_neg (by omega), if_pos (by omega)]
                clear h6 h7
                go_wp2_with fail
                go_at_call 186
                refine (HN.out _ HB.out).mono ?_
                rintro e w' ⟨rfl, rfl⟩
                have hw := HW.out
                go_wp2_with fail
                go_ret
                exact ⟨ret_int (by rw [HF.out]; rfl), bel⟩
            · have d6 : ((r : Int) != 65535) = true := by simp; omega
              have HF : Hid (errC bs = 7) := by show _ = _; rw [HE.out, if_pos (by omega)]
              clear h6
              go_wp2_with fail
              go_ret
              exact ⟨ret_int (by rw [HF.out]; rfl), bel⟩
  · have d1 : ((byt bs 0 : Int) / 16 != 4) = true := by simp; omega
    have HF : Hid (errC bs = 5) := by show _ = _; unfold errC; rw [if_pos h1]
    clear h1
    go_enter Tryz.func135, Tryz.ntmps135
    go_wp2_with fail
    go_ret
    exact ⟨ret_int (by rw [HF.out]; rfl), bel⟩

abbrev zeroV : Value := .agg (cells7 0 0 0 0 0 0 0)
abbrev badV (e : Nat) : Value := .tuple #[zeroV, .slice none 0 0, .int .i64 (e : Int)]

theorem parse_long (A : Option Addr) (n c : Nat) (bs : List UInt8) (B : Nat) (W : World) (hb : Bts W B A n bs) (hc : n ≤ c) (hm : c ≤ 9223372036854775807) (h : 1500 < n) :
    Calls Tryz.prog 95 #[.slice A n c] W fun e w' => e = .returned (badV 2) ∧ Below W.heap.size W w' := by
  have HZ := Lib.hid (Hd.box W 0 0 0 0 0 0 0)
  obtain ⟨f0, f1, f2, f3, f4, f5, f6⟩ := HZ.out.frozen
  obtain ⟨z0, z1, z2, z3, z4, z5, z6⟩ := HZ.out.cells
  have bel := (Below.refl _ W).alloc (Nat.le_refl _) (.cells (cells7 0 0 0 0 0 0 0) 156)
  clear hb
  go_enter Tryz.func95, Tryz.ntmps95
  go_wp2_with fail
  exact bodyPost_ret (v := badV 2) (by simp [results, Tryz.results95, go_sem, badV, zeroV, z0, z1, z2, z3, z4, z5, z6]) rfl ⟨rfl, bel⟩

theorem parse_short (A : Option Addr) (n c : Nat) (bs : List UInt8) (B : Nat) (W : World) (hb : Bts W B A n bs) (hc : n ≤ c) (hm : c ≤ 9223372036854775807) (h : n < 20) :
    Calls Tryz.prog 95 #[.slice A n c] W fun e w' => e = .returned (badV 4) ∧ Below W.heap.size W w' := by
  have HZ := Lib.hid (Hd.box W 0 0 0 0 0 0 0)
  obtain ⟨f0, f1, f2, f3, f4, f5, f6⟩ := HZ.out.frozen
  obtain ⟨z0, z1, z2, z3, z4, z5, z6⟩ := HZ.out.cells
  have bel := (Below.refl _ W).alloc (Nat.le_refl _) (.cells (cells7 0 0 0 0 0 0 0) 156)
  clear hb
  go_enter Tryz.func95, Tryz.ntmps95
  go_wp2_with fail
  exact bodyPost_ret (v := badV 4) (by simp [results, Tryz.results95, go_sem, badV, zeroV, z0, z1, z2, z3, z4, z5, z6]) rfl ⟨rfl, bel⟩

set_option maxHeartbeats 2000000 in
theorem parse_bad (A : Option Addr) (n c : Nat) (bs : List UInt8) (B : Nat) (W : World) (hb : Bts W B A n bs) (hB : B ≤ W.heap.size) (hc : n ≤ c) (hm : c ≤ 9223372036854775807) (h20 : 20 ≤ n) (h1500 : n ≤ 1500) (he : errC bs ≠ 0) :
    Calls Tryz.prog 95 #[.slice A n c] W fun e w' => e = .returned (badV (errC bs)) ∧ Below W.heap.size W w' := by
  have HB := Lib.hid (hb.alloc hB (.cells (cells7 0 0 0 0 0 0 0) 156))
  have HZ := Lib.hid (Hd.box W 0 0 0 0 0 0 0)
  have HBel := Lib.hid ((Below.refl _ W).alloc (Nat.le_refl _) (.cells (cells7 0 0 0 0 0 0 0) 156))
  have HH := Lib.hid (fun W' hb hB => head_any A n c bs B W' hb hB hc hm h20)
  have HC := Lib.hid (fun W' hb hB => check_any A n c bs B W' hb hB hc hm h20)
  have d : ((errC bs : Int) != 0) = true := by simp; omega
  clear hb he
  go_enter Tryz.func95, Tryz.ntmps95
  go_wp2_with fail
  go_at_call 134
  refine (HH.out _ HB.out (by simp; omega)).mono ?_
  rintro e w2 ⟨rfl, hb2⟩
  have HZ2 := Lib.hid (HZ.out.next hb2)
  have HB2 := Lib.hid (HB.out.below (hb2.mono (by simp; omega)))
  have HBel2 := Lib.hid (HBel.out.trans (hb2.mono (by simp)))
  have hs2 := hb2.size
  simp only [World.size_alloc] at hs2
  have HX := Lib.hid (Hd.box w2 0 0 0 0 0 0 0)
  obtain ⟨x0, x1, x2, x3, x4, x5, x6⟩ := HX.out.cells
  obtain ⟨g0, g1, g2, g3, g4, g5, g6⟩ := HX.out.frozen
  clear hb2
  go_wp2_with fail
  go_at_call 135
  have HB3 := Lib.hid (HB2.out.alloc (by omega) (.cells (cells7 (byt bs 9) (four bs 12) (four bs 16) (hs bs) (tl bs) (byt bs 8) (word bs 4)) 156))
  refine (HC.out _ HB3.out (by simp; omega)).mono ?_
  rintro e w3 ⟨rfl, hb3⟩
  have bel3 := HBel2.out.trans ((((Below.refl _ w2).alloc (Nat.le_refl _) (.cells (cells7 (byt bs 9) (four bs 12) (four bs 16) (hs bs) (tl bs) (byt bs 8) (word bs 4)) 156)).trans (hb3.mono (by simp))).mono (by omega))
  have HZ3 := Lib.hid ((HZ2.out.next ((Below.refl _ w2).alloc (Nat.le_refl _) (.cells (cells7 (byt bs 9) (four bs 12) (four bs 16) (hs bs) (tl bs) (byt bs 8) (word bs 4)) 156))).next hb3)
  clear hb3 x0 x1 x2 x3 x4 x5 x6 g0 g1 g2 g3 g4 g5 g6 hs2
  obtain ⟨z0, z1, z2, z3, z4, z5, z6⟩ := HZ3.out.cells
  obtain ⟨f0, f1, f2, f3, f4, f5, f6⟩ := HZ3.out.frozen
  go_wp2_with fail
  obtain ⟨r0, r1, r2, r3, r4, r5, r6⟩ := (HZ3.out.store 0 0 0 0 0 0 0).cells
  exact bodyPost_ret (v := badV (errC bs)) (by simp [results, Tryz.results95, go_sem, r0, r1, r2, r3, r4, r5, r6]) rfl ⟨rfl, below_store7 bel3 (Nat.le_refl _) _ _ _ _ _ _ _⟩

theorem row_ofB {w : World} {base g n : Nat} {bs : List UInt8} (h : w.ownsRow base 5 1 (.slice (some ⟨g, 0, none⟩) n n) n (bvs bs)) : Row w g bs := by
  rcases h.2 with ⟨h', _⟩ | ⟨g', cap', cur, h', _, hg, _, _, hcs, htake⟩
  · simp at h'
  · simp only [Value.slice.injEq, Option.some.injEq, Addr.mk.injEq, and_true, true_and] at h'
    obtain ⟨rfl, rfl⟩ := h'
    rw [List.take_of_length_le (by simp [hcs])] at htake
    unfold Row
    rw [← htake]
    exact hg

theorem body_bts {w : World} {B n b off m : Nat} {bs : List UInt8} (hb : Bts w B (some ⟨b, off, none⟩) n bs) (hm : tl bs - hs bs = m) (h : hs bs + m ≤ n) (sp : Option Addr) (hsp : 0 < tl bs - hs bs → sp = some ⟨b, off + hs bs, none⟩) :
    Bts w B sp (tl bs - hs bs) (body bs) := by
  rcases Nat.eq_zero_or_pos m with h0 | h0
  · rw [hm, h0]
    have : body bs = [] := by unfold body; rw [hm, h0]; simp
    rw [this]
    exact Bts.empty _ _ _
  · rw [hsp (by omega), hm]
    obtain ⟨b', off', e, h1⟩ := hb.cut (hs bs) m h0 (by omega)
    injection e with e
    injection e with e1 e2
    subst e1; subst e2
    unfold body
    rw [hm]
    exact h1

def Parsed (W : World) (bs : List UInt8) (e : Ending) (w' : World) : Prop :=
  ∃ A c, e = .returned (.tuple #[headV bs, .slice A (tl bs - hs bs) c, .int .i64 0]) ∧ Bts w' w'.heap.size A (tl bs - hs bs) (body bs) ∧ (tl bs - hs bs ≤ c ∧ c ≤ 9223372036854775807) ∧ Below W.heap.size W w'

def ParsedN (W : World) (bs : List UInt8) (e : Ending) (w' : World) : Prop :=
  ∃ A c, e = .returned (.tuple #[headV bs, .slice A (tl bs - hs bs) c, .int .i64 0]) ∧ Bts w' w'.heap.size A (tl bs - hs bs) (body bs) ∧ (tl bs - hs bs ≤ c ∧ c ≤ 9223372036854775807) ∧ Below W.heap.size W w' ∧ ∀ p, A = some p → W.heap.size ≤ p.block
theorem ParsedN.plain {W w' : World} {bs : List UInt8} {e : Ending} (h : ParsedN W bs e w') : Parsed W bs e w' := by
  obtain ⟨A, c, h1, h2, h3, h4, _⟩ := h
  exact ⟨A, c, h1, h2, h3, h4⟩

set_option maxHeartbeats 2000000 in
theorem parse_okN (A : Option Addr) (n c : Nat) (bs : List UInt8) (B : Nat) (W : World) (hb : Bts W B A n bs) (hB : B ≤ W.heap.size) (hc : n ≤ c) (hm : c ≤ 9223372036854775807) (h20 : 20 ≤ n) (h1500 : n ≤ 1500) (he : errC bs = 0) :
    Calls Tryz.prog 95 #[.slice A n c] W (ParsedN W bs) := by
  obtain ⟨i0, hi0, hz0, hz1, hz2⟩ := info_parts u8_info
  obtain ⟨b, off, rfl, hlt, -⟩ := hb.at_ (by omega)
  obtain ⟨q1, q2, q3, q4, q5, q6, q7⟩ := IpM.errC_zero he
  have HBL := Lib.hid (IpM.body_len he)
  rw [hb.len] at q3 q5
  obtain ⟨m, hmm⟩ : ∃ m, tl bs = hs bs + m := ⟨tl bs - hs bs, by omega⟩
  have HM : Hid (tl bs - hs bs = m) := by show _ = _; omega
  have em : (tl bs : Int) - (hs bs : Int) = (m : Int) := by omega
  have m1 : hs bs + m ≤ n := by omega
  have HB := Lib.hid (hb.alloc hB (.cells (cells7 0 0 0 0 0 0 0) 156))
  have HZ := Lib.hid (Hd.box W 0 0 0 0 0 0 0)
  have HBel := Lib.hid ((Below.refl _ W).alloc (Nat.le_refl _) (.cells (cells7 0 0 0 0 0 0 0) 156))
  have HH := Lib.hid (fun W' hb hB => head_any (some ⟨b, off, none⟩) n c bs B W' hb hB hc hm h20)
  have HC := Lib.hid (fun W' hb hB => check_any (some ⟨b, off, none⟩) n c bs B W' hb hB hc hm h20)
  rw [he] at HC
  have hsl := hs_le bs
  have htl := tl_lt bs
  clear hb he hmm q1 q6 q7
  go_enter Tryz.func95, Tryz.ntmps95
  go_wp2_with fail
  go_at_call 134
  refine (HH.out _ HB.out (by simp; omega)).mono ?_
  rintro e w2 ⟨rfl, hb2⟩
  have HZ2 := Lib.hid (HZ.out.next hb2)
  have HB2 := Lib.hid (HB.out.below (hb2.mono (by simp; omega)))
  have HBel2 := Lib.hid (HBel.out.trans (hb2.mono (by simp)))
  have hs2 := hb2.size
  simp only [World.size_alloc] at hs2
  have HX := Lib.hid (Hd.box w2 0 0 0 0 0 0 0)
  obtain ⟨x0, x1, x2, x3, x4, x5, x6⟩ := HX.out.cells
  obtain ⟨g0, g1, g2, g3, g4, g5, g6⟩ := HX.out.frozen
  clear hb2
  go_wp2_with fail
  go_at_call 135
  have HB3 := Lib.hid (HB2.out.alloc (by omega) (.cells (cells7 (byt bs 9) (four bs 12) (four bs 16) (hs bs) (tl bs) (byt bs 8) (word bs 4)) 156))
  refine (HC.out _ HB3.out (by simp; omega)).mono ?_
  rintro e w3 ⟨rfl, hb3⟩
  have bel3 := HBel2.out.trans ((((Below.refl _ w2).alloc (Nat.le_refl _) (.cells (cells7 (byt bs 9) (four bs 12) (four bs 16) (hs bs) (tl bs) (byt bs 8) (word bs 4)) 156)).trans (hb3.mono (by simp))).mono (by omega))
  have HZ3 := Lib.hid ((HZ2.out.next ((Below.refl _ w2).alloc (Nat.le_refl _) (.cells (cells7 (byt bs 9) (four bs 12) (four bs 16) (hs bs) (tl bs) (byt bs 8) (word bs 4)) 156))).next hb3)
  have HY3 := Lib.hid ((Hd.box w2 (byt bs 9) (four bs 12) (four bs 16) (hs bs) (tl bs) (byt bs 8) (word bs 4)).next hb3)
  have HB4 := Lib.hid (HB3.out.below (hb3.mono (by simp; omega)))
  have hs3 := hb3.size
  simp only [World.size_alloc] at hs3
  clear hb3 x0 x1 x2 x3 x4 x5 x6 g0 g1 g2 g3 g4 g5 g6
  obtain ⟨y0, y1, y2, y3, y4, y5, y6⟩ := HY3.out.cells
  have HBD := Lib.hid (fun (w : World) (hb : Bts w B (some ⟨b, off, none⟩) n bs) => body_bts hb HM.out m1)
  have HBL2 : Hid ((body bs).length = m) := by show _ = _; rw [HBL.out]; exact HM.out
  go_wp2_with (first
    | (at_make; refine wpList_make_full _ rfl (.tmp 29) (.tmp 29) _ rfl w3.heap.size 5 i0 _ 1 Tryz.underlying27 hi0 hz0 hz1 .i64 .i64 (m : Int) (m : Int) m rfl rfl rfl rfl (by rw [hz2]; omega) (by unfold maxLen; omega) (Nat.le_refl _) ?_
       intro w4 hown hgr
       rw [bvs_zeros] at hown
       have hb4 := (Below.refl w3.heap.size w3).grown hgr (Nat.le_refl _) (by simp)
       have HR4 := Lib.hid (row_ofB hown)
       have HY4 := Lib.hid (HY3.out.next hb4)
       have HZ4 := Lib.hid (HZ3.out.next hb4)
       have HB5 := Lib.hid (HB4.out.below (hb4.mono (by omega)))
       have bel4 := bel3.trans (hb4.mono (by omega))
       have hs4 := hb4.size
       clear hown hgr hb4 y0 y1 y2 y3 y4 y5 y6
       obtain ⟨y0, y1, y2, y3, y4, y5, y6⟩ := HY4.out.cells)
    | (refine at_slot 38 ?_
       refine wpList_copy_bts rfl (.tmp 31) (.tmp 37) _ _ rfl 5 Tryz.underlying27 (by kernel_rfl) (some ⟨w3.heap.size, 0, none⟩) (if c = hs bs then some ⟨b, off, none⟩ else some ⟨b, off + hs bs, none⟩) w3.heap.size 0 m m (tl bs - hs bs) (c - hs bs) B rfl rfl (List.replicate m 0) (body bs) 5 HR4.out (HBD.out _ HB5.out _ (fun h => if_neg (by have := HM.out; omega))) (by have := HM.out; omega) (by have := HM.out; rw [List.length_replicate]; omega) (fun _ => rfl) ?_
       intro w5 hr5 hg5
       have HR5 := Lib.hid hr5
       clear y0 y1 y2 y3 y4 y5 y6 hr5
       have HY5 := Lib.hid (HY4.out.keep (hg5.block _ (by omega) (by simp; omega)))
       have HZ5 := Lib.hid (HZ4.out.keep (hg5.block _ (by omega) (by simp; omega)))
       have bel5 := bel4.grown hg5 (by omega) (by intro k hk; injection hk with hk; omega)
       obtain ⟨y0, y1, y2, y3, y4, y5, y6⟩ := HY5.out.cells
       obtain ⟨z0, z1, z2, z3, z4, z5, z6⟩ := HZ5.out.cells
       obtain ⟨f0, f1, f2, f3, f4, f5, f6⟩ := HZ5.out.frozen))
  all_goals
    have hrow : (store7 w5 W.heap.size (byt bs 9) (four bs 12) (four bs 16) (hs bs) (tl bs) (byt bs 8) (word bs 4)).heap[w3.heap.size]? = some (.cells (bvs (body bs)).toArray 5 (0, 0)) := by
      rw [store7_block _ _ _ (by omega), HR5.out, over_all _ _ (by rw [List.length_replicate]; exact HBL2.out.symm)]
    have hbt := bts_row _ _ _ _ _ hrow rfl
    rw [HBL2.out] at hbt
    obtain ⟨r0, r1, r2, r3, r4, r5, r6⟩ := (HZ5.out.store (byt bs 9) (four bs 12) (four bs 16) (hs bs) (tl bs) (byt bs 8) (word bs 4)).cells
    exact bodyPost_ret (v := .tuple #[headV bs, .slice (some ⟨w3.heap.size, 0, none⟩) m m, .int .i64 0]) (by simp [results, Tryz.results95, go_sem, r0, r1, r2, r3, r4, r5, r6]) rfl
      ⟨some ⟨w3.heap.size, 0, none⟩, m, by rw [HM.out], by rw [HM.out]; exact hbt, by rw [HM.out]; omega, below_store7 bel5 (Nat.le_refl _) _ _ _ _ _ _ _, fun p hp => by injection hp with hp; subst hp; simp; omega⟩
theorem parse_ok (A : Option Addr) (n c : Nat) (bs : List UInt8) (B : Nat) (W : World) (hb : Bts W B A n bs) (hB : B ≤ W.heap.size) (hc : n ≤ c) (hm : c ≤ 9223372036854775807) (h20 : 20 ≤ n) (h1500 : n ≤ 1500) (he : errC bs = 0) :
    Calls Tryz.prog 95 #[.slice A n c] W (Parsed W bs) := (parse_okN A n c bs B W hb hB hc hm h20 h1500 he).mono fun _ _ h => h.plain

end Ip
end Go.Proofs.YtcockldefmmhbaaGreatDoor
set_option linter.unusedVariables false
set_option maxRecDepth 100000
namespace Go.Proofs.YtcockldefmmhbaaGreatDoor
open Go.ChangeShapes Go.WideShapes Go.ChangeAt Go.RowKit Go.Mtl
namespace Tc
open TcpM (saneB)
open Ip (ret_int)
theorem gCon:Tryz.prog.globalNamed "mantlet/tcp.consistent" = some 1:=by kernel_rfl
structure Env (w:World):Prop where
 c0:w.cell? ⟨1,0,none⟩=some (.int .u8 7)
 c1:w.cell? ⟨1,1,none⟩=some (.int .u8 2)
 c2:w.cell? ⟨1,2,none⟩=some (.int .u8 7)
 c3:w.cell? ⟨1,3,none⟩=some (.int .u8 4)
 c4:w.cell? ⟨1,4,none⟩=some (.int .u8 22)
 c5:w.cell? ⟨1,5,none⟩=some (.int .u8 16)
theorem Env.lt {w:World} (h:Env w):1 < w.heap.size:=World.block_lt_of_cell? _ _ h.c0
theorem Env.below {w w':World} (h:Env w) {B:Nat} (hb:Below B w w') (hB:w.heap.size<=B):Env w':=by
 have hlt:=h.lt
 have k:∀ i,w'.cell? ⟨1,i,none⟩=w.cell? ⟨1,i,none⟩:=fun i=>hb.cell (Nat.lt_of_lt_of_le hlt hB)
 exact ⟨(k 0).trans h.c0,(k 1).trans h.c1,(k 2).trans h.c2,(k 3).trans h.c3,(k 4).trans h.c4,(k 5).trans h.c5⟩
theorem Env.alloc {w:World} (h:Env w) (o:Obj):Env (w.alloc o):=h.below ((Below.refl _ _).alloc (Nat.le_refl _) o) (Nat.le_refl _)
theorem and_u8 (x y:Nat) (hx:x < 256) (hy:y < 256):bits .and .u8 (x:Int) (y:Int)=((x &&& y:Nat):Int):=by
 have h:∀ a:Fin 256,∀ b:Fin 256,bits .and .u8 (a.val:Int) (b.val:Int)=((a.val &&& b.val:Nat):Int):=by
  intro a b
  show IntKind.u8.wrap ((BitVec.ofInt 8 (a.val:Int) &&& BitVec.ofInt 8 (b.val:Int)).toNat:Int)=_
  rw [BitVec.ofInt_natCast,BitVec.ofInt_natCast,BitVec.toNat_and,BitVec.toNat_ofNat,BitVec.toNat_ofNat,Nat.mod_eq_of_lt (by omega),Nat.mod_eq_of_lt (by omega)]
  have:a.val &&& b.val<=a.val:=Nat.and_le_left
  simp [IntKind.wrap,IntKind.bits,IntKind.signed]
  omega
 exact h ⟨x,hx⟩ ⟨y,hy⟩
theorem pat_size:(Tryz.prog.info? 295).map (·.size)=some 2:=by kernel_rfl
theorem idx_con (v0 v1 v2 v3 v4 v5 x y:Value) (k:Int) (hk:0<=k/\k < 3) (h:(([v0,v1,v2,v3,v4,v5].drop (k.toNat * 2)).take 2)=[x,y]) (w:World) :
  (Instr.index 296 (.agg #[v0,v1,v2,v3,v4,v5]) (.int .i64 k)).run Tryz.prog w = .ok (.agg #[x,y]) w:=by
 have hu:=Tryz.underlying296
 obtain ⟨i,hi,hs⟩:=Option.map_eq_some_iff.1 pat_size
 simp [Instr.index,run_underlying hu,asIntOf,hk,go_sem,sizeOf,typeInfo,hs,part,hi,h]
def SaneAt (a c:Nat) (k:Nat):Prop:=(0 < k->a≠2)/\(1 < k->a≠4)/\(2 < k->c≠16)
set_option maxHeartbeats 1000000 in
theorem sane_any (f:Nat) (hf:f < 256) (b:Bool) (hb:saneB f=b) (W:World) (he:Env W) :
  Calls Tryz.prog 189 #[.int .u8 (f:Int)] W fun e w'=>e = .returned (.bool b)/\Below W.heap.size W w':=by
 obtain ⟨c0,c1,c2,c3,c4,c5⟩:=he
 rw [TcpM.sane_bits f hf] at hb
 have a7:=and_u8 f 7 hf (by omega)
 have a22:=and_u8 f 22 hf (by omega)
 generalize f &&& 7=a at a7 hb
 generalize f &&& 22=c at a22 hb
 have a7':bits .and .u8 (f:Int) 7=(a:Int):=a7
 have a22':bits .and .u8 (f:Int) 22=(c:Int):=a22
 have HB:=Lib.hid hb
 clear a7 a22 hb
 go_enter Tryz.func189,Tryz.ntmps189
 go_wp2_with fail
 go_loopw [6] (fun i w'=>∃ k:Nat,k<=3/\i = .int .i64 (k:Int)/\SaneAt a c k/\Below W.heap.size W w') (fun i _=>3 - (intOf i).toNat)
 case atStart=>exact ⟨0,by omega,rfl,⟨fun h=>by omega,fun h=>by omega,fun h=>by omega⟩,Below.refl _ _⟩
 case round =>
  obtain ⟨k,hk,rfl,hs,hbel⟩:=hrel
  have hq:k=0\/k=1\/k=2\/k=3:=by omega
  rcases hq with rfl | rfl | rfl | rfl
  ·have X:=idx_con (.int .u8 7) (.int .u8 2) (.int .u8 7) (.int .u8 4) (.int .u8 22) (.int .u8 16) _ _ 0 (by omega) rfl
   by_cases h:a=2
   ·have d:((a:Int) == 2)=true:=by simp;omega
    have HF:Hid (b=true):=by show _=_;rw [← HB.out,h];simp
    clear h
    go_wp2_with fail
    go_ret
    exact ⟨by rw [HF.out];rfl,(hbel.alloc hbel.size _)⟩
   ·have d:((a:Int) == 2)=false:=by simp;omega
    have HH:=Lib.hid h
    clear h
    go_wp2_with fail
    go_roundw
    case rel=>exact ⟨1,by omega,by go_num,⟨fun _=>HH.out,fun h=>by omega,fun h=>by omega⟩,hbel.alloc hbel.size _⟩
    case measure=>simp [intOf]
  ·have X:=idx_con (.int .u8 7) (.int .u8 2) (.int .u8 7) (.int .u8 4) (.int .u8 22) (.int .u8 16) _ _ 1 (by omega) rfl
   by_cases h:a=4
   ·have d:((a:Int) == 4)=true:=by simp;omega
    have HF:Hid (b=true):=by show _=_;rw [← HB.out,h];simp
    clear h
    go_wp2_with fail
    go_ret
    exact ⟨by rw [HF.out];rfl,(hbel.alloc hbel.size _)⟩
   ·have d:((a:Int) == 4)=false:=by simp;omega
    have HH:=Lib.hid h
    clear h
    go_wp2_with fail
    go_roundw
    case rel=>exact ⟨2,by omega,by go_num,⟨fun _=>hs.1 (by omega),fun _=>HH.out,fun h=>by omega⟩,hbel.alloc hbel.size _⟩
    case measure=>simp [intOf]
  ·have X:=idx_con (.int .u8 7) (.int .u8 2) (.int .u8 7) (.int .u8 4) (.int .u8 22) (.int .u8 16) _ _ 2 (by omega) rfl
   by_cases h:c=16
   ·have d:((c:Int) == 16)=true:=by simp;omega
    have HF:Hid (b=true):=by show _=_;rw [← HB.out,h];simp
    clear h
    go_wp2_with fail
    go_ret
    exact ⟨by rw [HF.out];rfl,(hbel.alloc hbel.size _)⟩
   ·have d:((c:Int) == 16)=false:=by simp;omega
    have HH:=Lib.hid h
    clear h
    go_wp2_with fail
    go_roundw
    case rel=>exact ⟨3,by omega,by go_num,⟨fun _=>hs.1 (by omega),fun _=>hs.2.1 (by omega),fun _=>HH.out⟩,hbel.alloc hbel.size _⟩
    case measure=>simp [intOf]
  ·have HF:Hid (b=false):=by
    show _=_
    have h1:=hs.1 (by omega)
    have h2:=hs.2.1 (by omega)
    have h3:=hs.2.2 (by omega)
    rw [← HB.out];simp [h1,h2,h3]
   go_wp2_with fail
   go_ret
   exact ⟨by rw [HF.out];rfl,hbel⟩
end Tc
end Go.Proofs.YtcockldefmmhbaaGreatDoor
set_option linter.unusedVariables false
set_option maxRecDepth 100000
namespace Go.Proofs.YtcockldefmmhbaaGreatDoor
open Go.ChangeShapes Go.WideShapes Go.ChangeAt Go.RowKit Go.Mtl
namespace Ip
open IpM (word four hs tl word_lt four_lt)
open SumM (add add_le)
theorem row_of_own {w:World} {base g n:Nat} {bs:List UInt8} (h:w.ownsRow base 5 1 (.slice (some ⟨g,0,none⟩) n n) n (bvs bs)):Row w g bs:=by
 rcases h.2 with ⟨h',_⟩ | ⟨g',cap',cur,h',_,hg,_,_,hcs,htake⟩
 ·simp at h'
 ·simp only [Value.slice.injEq,Option.some.injEq,Addr.mk.injEq,and_true,true_and] at h'
  obtain ⟨rfl,rfl⟩:=h'
  rw [List.take_of_length_le (by simp [hcs])] at htake
  unfold Row
  rw [← htake]
  exact hg
theorem Row.set {w:World} {g:Nat} {l:List UInt8} (h:Row w g l) (j:Nat) (x:Int) (c:UInt8) (hx:x=(c.toNat:Int)):Row (w.setCell ⟨g,j,none⟩ (.int .u8 x)) g (l.set j c):=by
 subst hx
 have:=heap_setCell_same w g j _ _ (.int .u8 (c.toNat:Int)) h
 unfold Row
 rw [this,← bvs_set]
 simp
theorem Row.cell {w:World} {g:Nat} {l:List UInt8} (h:Row w g l) (j:Nat) (hj:j < l.length):w.cell? ⟨g,j,none⟩=some (.int .u8 (byt l j:Int)):=by
 rw [cell_of_row w g j _ _ _ h,List.getElem?_toArray,bvs_at l j hj]
theorem Row.frozen {w:World} {g:Nat} {l:List UInt8} (h:Row w g l) (j:Nat):w.frozen? ⟨g,j,none⟩=false:=frozen_of_row w g j _ _ h
structure BAt (W w:World) (B:Nat) (A:Option Addr) (n:Nat) (x:List UInt8) (g:Nat) (l:List UInt8) (pr sr ds sz ln tt id:Int):Prop where
 hd:Hd w W.heap.size pr sr ds sz ln tt id
 row:Row w g l
 lt:W.heap.size < g
 bel:Below W.heap.size W w
 bts:Bts w B A n x
 hB:B<=W.heap.size
section
variable {W w w':World} {B:Nat} {A:Option Addr} {n:Nat} {x:List UInt8} {g:Nat} {l l':List UInt8} {pr sr ds sz ln tt id:Int}
theorem BAt.but (h:BAt W w B A n x g l pr sr ds sz ln tt id) (hr:Row w' g l') (hb:But g w w'):BAt W w' B A n x g l' pr sr ds sz ln tt id:=by
 have h1:=h.row.lt
 have h2:=h.lt
 have h3:=h.hB
 refine ⟨h.hd.keep (hb.block _ (by omega) (by simp;omega)),hr,h.lt,h.bel.grown hb h.bel.size (by intro k hk;injection hk with hk;omega),h.bts.keep fun p hp=>World.cell?_of_block (hb.block p.block (by omega) (by simp;omega)),h.hB⟩
theorem BAt.set (h:BAt W w B A n x g l pr sr ds sz ln tt id) (j:Nat) (v:Int) (c:UInt8) (hv:v=(c.toNat:Int)):BAt W (w.setCell ⟨g,j,none⟩ (.int .u8 v)) B A n x g (l.set j c) pr sr ds sz ln tt id :=
 h.but (h.row.set j v c hv) (grown_setCell w g j _)
end
end Ip
end Go.Proofs.YtcockldefmmhbaaGreatDoor
set_option linter.unusedVariables false
set_option maxRecDepth 100000
namespace Go.Proofs.YtcockldefmmhbaaGreatDoor
open Go.ChangeShapes Go.WideShapes Go.ChangeAt Go.RowKit Go.Mtl
namespace Ip
open IpM (twoB fourB)
open SumM (add add_le)
abbrev S7 (W1 w:World) (G:Nat) (pr sr ds tt id:Int):Prop :=
 w.cell? ⟨G,0,none⟩=some (.int .u8 pr)/\w.cell? ⟨G,1,none⟩=some (.int .u32 sr)/\w.cell? ⟨G,2,none⟩=some (.int .u32 ds)/\w.cell? ⟨G,5,none⟩=some (.int .u8 tt)/\w.cell? ⟨G,6,none⟩=some (.int .u16 id)/\Hid (Below W1.heap.size W1 w)
section
variable {W1 w w':World} {G:Nat} {pr sr ds sz ln tt id:Int}
theorem S7.mk (hx:Hid (Hd W1 G pr sr ds sz ln tt id)) (hb:Below W1.heap.size W1 w):S7 W1 w G pr sr ds tt id:=by
 obtain ⟨h0,h1,h2,_,_,h5,h6⟩:=(hx.out.next hb).cells
 exact ⟨h0,h1,h2,h5,h6,hb⟩
theorem S7.bel (h:S7 W1 w G pr sr ds tt id):Below W1.heap.size W1 w:=h.2.2.2.2.2.out
theorem S7.next (hx:Hid (Hd W1 G pr sr ds sz ln tt id)) (h:S7 W1 w G pr sr ds tt id) (hb:Below w.heap.size w w'):S7 W1 w' G pr sr ds tt id:=S7.mk hx (h.bel.trans (hb.mono h.bel.size))
theorem S7.alloc (hx:Hid (Hd W1 G pr sr ds sz ln tt id)) (h:S7 W1 w G pr sr ds tt id) (o:Obj):S7 W1 (w.alloc o) G pr sr ds tt id:=S7.mk hx (h.bel.alloc h.bel.size o)
theorem S7.grown (hx:Hid (Hd W1 G pr sr ds sz ln tt id)) (h:S7 W1 w G pr sr ds tt id) {v:Value} {base n:Nat} {xs:List Value} (ho:w.ownsRow base 5 1 v n xs) (hB:W1.heap.size<=base) (hg:w.grownBy w' v.ownBlock):S7 W1 w' G pr sr ds tt id :=
 S7.mk hx (h.bel.grown hg h.bel.size fun k hk=>Nat.le_trans hB (ho.lt k hk).1)
end
theorem Row.keep {w w':World} {g:Nat} {bs:List UInt8} (h:Row w g bs) (hk:w'.heap[g]? = w.heap[g]?):Row w' g bs:=hk.trans h
end Ip
end Go.Proofs.YtcockldefmmhbaaGreatDoor
set_option linter.unusedVariables false
set_option maxRecDepth 100000
set_option linter.unusedSimpArgs false
namespace Go.Proofs.YtcockldefmmhbaaGreatDoor
open Go.ChangeShapes Go.WideShapes Go.ChangeAt Go.RowKit Go.Mtl
namespace Tc
open TcpM (saneB psB psN totN psN_le totN_le)
open SumM (add add_le)
open IpM (word word_lt twoB fourB)
open Ip (ret_int MadeO Row But u8_info own_bts own_lit)

theorem cutAt_own {W wr : World} {v s g : Nat} (hs : s ≤ 9223372036854775807) (h : Fld.CutAt W v s g s wr) (e : Ending) (he : e = .returned (.slice (some ⟨g, 0, none⟩) s s)) : MadeO W s (FldM.cutN v s) e wr := by
  obtain ⟨hb, l, hl, hby, ho⟩ := h
  have : l = FldM.cutN v s := eq_of_byt (by rw [FldM.cutN_len, hl]) (fun j hj => hby j (by omega))
  subst this
  exact ⟨_, _, he, ho, hb, Nat.le_refl _, hs⟩

theorem cut_own (v : Int) (s : Nat) (hv0 : 0 ≤ v) (hv : v < 18446744073709551616) (h1 : 1 ≤ s) (h2 : s ≤ 8) (W : World) :
    Calls Tryz.prog 277 #[.int .u64 v, .int .i64 (s : Int)] W (MadeO W s (FldM.cutN v.toNat s)) := by
  obtain ⟨i0, hi0, hz0, hz1, hz2⟩ := info_parts u8_info
  go_enter Tryz.func277, Tryz.ntmps277
  go_wp2_with (at_make; refine wpList_make_full _ rfl (.tmp 13) (.tmp 13) _ rfl W.heap.size 5 i0 _ 1 Tryz.underlying27 hi0 hz0 hz1 .i64 .i64 (s : Int) (s : Int) s rfl rfl rfl rfl (by rw [hz2]; omega) (by unfold maxLen; omega) (Nat.le_refl _) ?_; intro w1 hown hgr; rw [bvs_zeros] at hown)
  go_loopw [6, 17] (fun _ i w' => ∃ k : Nat, k ≤ s ∧ i = .int .i64 (k : Int) ∧ Fld.CutAt W v.toNat s W.heap.size k w') (fun _ i _ => s - (intOf i).toNat)
  case atStart => exact ⟨0, by omega, rfl, (Below.refl _ _).grown hgr (Nat.le_refl _) (by simp), List.replicate s 0, by simp, fun j h => absurd h (by omega), hown⟩
  case round =>
    obtain ⟨k, hk, rfl, hbel, l, hl, hby, ho⟩ := hrel
    clear hown hgr
    by_cases hlt : k < s
    · have hc1 := ho.cellAt k (by omega)
      rw [bvs_at l k (by omega)] at hc1
      have hf1 := ho.frozenAt k
      have HB := Lib.hid (Fld.cut_byte v s k hv0 hlt)
      have HO := Lib.hid ho
      have HY := Lib.hid hby
      have HL := Lib.hid hl
      clear ho hby hl
      go_wp2
      go_roundw
      case rel => exact ⟨k + 1, by omega, by go_num, Fld.cutAt_step (Nat.le_refl _) hlt l _ HB.out hbel HL.out HY.out HO.out⟩
      case measure => simp [intOf]; omega
    · have hK : k = s := by omega
      subst hK
      have HC := Lib.hid (cutAt_own (W := W) (v := v.toNat) (by omega) ⟨hbel, l, hl, hby, ho⟩)
      clear ho hby hl
      go_wp2
      go_ret
      exact HC.out _ rfl

theorem cut4_any (n : Nat) (hn : n < 4294967296) (W : World) :
    Calls Tryz.prog 277 #[.int .u64 (n : Int), .int .i64 4] W (MadeO W 4 (fourB n)) := by
  have h := cut_own (n : Int) 4 (by omega) (by omega) (by omega) (by omega) W
  rw [Int.toNat_natCast, IpM.cut_four] at h
  exact h
theorem cut2_any (n : Nat) (hn : n < 18446744073709551616) (W : World) :
    Calls Tryz.prog 277 #[.int .u64 (n : Int), .int .i64 2] W (MadeO W 2 (twoB n)) := by
  have h := cut_own (n : Int) 2 (by omega) (by omega) (by omega) (by omega) W
  rw [Int.toNat_natCast, IpM.cut_two] at h
  exact h

theorem port_any (A : Option Addr) (n c : Nat) (bs : List UInt8) (B : Nat) (a : Nat) (W : World) (hb : Bts W B A n bs) (hc : n ≤ c) (hm : c ≤ 9223372036854775807) (h3 : a + 2 ≤ n) :
    Calls Tryz.prog 137 #[.slice A n c, .int .i64 (a : Int)] W fun e w' => e = .returned (.int .u16 (word bs a : Int)) ∧ W = w' := by
  obtain ⟨b, off, rfl, hlt, hcell⟩ := hb.at_ (by omega)
  have hv := Ip.num_word bs a (by rw [hb.len]; omega)
  have C := Fld.num_yes b off n c bs a 2 hb.len hc hm (by omega) (by omega) h3 W hcell
  rw [hv] at C
  have HC := Lib.hid C
  have hw := word_lt bs a
  clear C hcell hv hb
  go_enter Tryz.func137, Tryz.ntmps137
  go_wp2_with (go_at_call 190; refine HC.out.mono ?_; rintro e w' ⟨rfl, rfl⟩)
  go_ret
  exact ⟨rfl, rfl⟩

theorem lit2 (w : World) (x y : Nat) (hx : x < 256) (hy : y < 256) : Bts (w.alloc (.cells #[.int .u8 (x : Int), .int .u8 (y : Int)] 5)) (w.alloc (.cells #[.int .u8 (x : Int), .int .u8 (y : Int)] 5)).heap.size (some ⟨w.heap.size, 0, none⟩) 2 [UInt8.ofNat x, UInt8.ofNat y] :=
  own_bts (own_lit w [UInt8.ofNat x, UInt8.ofNat y] 2 rfl (by omega) _ (by simp [bvs]; omega))

set_option maxHeartbeats 2000000 in
theorem pseudo_any (pr sr ds : Nat) (n : Int) (v : Nat) (hpr : pr < 256) (hsr : sr < 4294967296) (hds : ds < 4294967296) (hv : v < 18446744073709551616) (hn : IntKind.u64.wrap n = (v : Int)) (W : World) :
    Calls Tryz.prog 247 #[.int .u8 (pr : Int), .int .u32 (sr : Int), .int .u32 (ds : Int), .int .i64 n] W fun e w' => e = .returned (.int .u16 (psN pr sr ds v : Int)) ∧ Below W.heap.size W w' := by
  obtain ⟨i0, hi0, hz0, hz1, hz2⟩ := info_parts u8_info
  have HN := Lib.hid hn
  clear hn
  go_enter Tryz.func247, Tryz.ntmps247
  go_wp2_with fail
  go_at_call 277
  refine (cut4_any sr hsr W).mono ?_
  rintro e w1 ⟨A1, c1, rfl, ho1, hb1, hc1⟩
  have H1 := Lib.hid ho1
  clear ho1
  go_wp2_with fail
  go_at_call 277
  refine (cut4_any ds hds w1).mono ?_
  rintro e w2 ⟨A2, c2, rfl, ho2, hb2, hc2⟩
  have hs1 := hb1.size
  have hs2 := hb2.size
  have H2 := Lib.hid ho2
  have H3 := Lib.hid (own_below H1.out hb2)
  have HB2 := Lib.hid (hb1.trans (hb2.mono hs1))
  clear ho2 H1 hb1 hb2
  go_wp2_with (first
    | (refine at_slot 17 ?_
       refine wpList_append_hid (W0 := W) 8 rfl (.tmp 13) (.tmp 16) _ rfl 5 i0 Tryz.underlying27 hi0 hz0 hz1 hz2 _ 4 _ rfl H3.out HB2.out _ A2 4 c2 _ rfl (own_bts H2.out) rfl (by omega) ?_
       intro A3 c3 w3 H4 HB3 _ _
       clear H2 H3 HB2)
    | (refine at_slot 21 ?_
       refine wpList_append_hid (W0 := W) 10 rfl (.tmp 18) (.tmp 20) _ rfl 5 i0 Tryz.underlying27 hi0 hz0 hz1 hz2 _ 8 _ rfl (H4.out.alloc _) (HB3.out.alloc HB3.out.size _) _ (some ⟨w3.heap.size, 0, none⟩) 2 2 _ rfl (lit2 w3 0 pr (by omega) hpr) rfl (by omega) ?_
       intro A4 c4 w4 H5 HB4 _ _
       clear H4 HB3))
  go_at_call 277
  rw [HN.out]
  refine (cut2_any v hv w4).mono ?_
  rintro e w5 ⟨A5, c5, rfl, ho5, hb5, hc5⟩
  have H6 := Lib.hid ho5
  have H7 := Lib.hid (own_below H5.out (hb5.mono (Nat.le_refl _)))
  have HB5 := Lib.hid (HB4.out.trans (hb5.mono HB4.out.size))
  clear ho5 hb5 H5 HB4
  go_wp2_with (refine at_slot 26 ?_
               refine wpList_append_hid (W0 := W) 12 rfl (.tmp 22) (.tmp 25) _ rfl 5 i0 Tryz.underlying27 hi0 hz0 hz1 hz2 _ 10 _ rfl H7.out HB5.out _ A5 2 c5 _ rfl (own_bts H6.out) rfl (by omega) ?_
               intro A6 c6 w6 H8 HB6 _ HC6
               clear H6 H7 HB5)
  go_at_call 187
  refine (Sm.add_any 0 A6 12 c6 (psB pr sr ds v) w6 w6.heap.size (own_bts H8.out) (by omega) HC6.out.1 HC6.out.2).mono ?_
  rintro e w' ⟨rfl, rfl⟩
  go_wp2_with fail
  go_ret
  exact ⟨rfl, HB6.out⟩

theorem len_wrap (n : Nat) (h : n ≤ 9223372036854775807) : IntKind.u64.wrap (n : Int) = (n : Int) := by simp [IntKind.wrap, IntKind.bits, IntKind.signed]; omega

theorem total_any (sr ds : Nat) (A : Option Addr) (n c : Nat) (bs : List UInt8) (B : Nat) (W : World) (hb : Bts W B A n bs) (hB : B ≤ W.heap.size) (hc : n ≤ c) (hm : c ≤ 9223372036854775807) (hsr : sr < 4294967296) (hds : ds < 4294967296) :
    Calls Tryz.prog 188 #[.int .u32 (sr : Int), .int .u32 (ds : Int), .slice A n c] W fun e w' => e = .returned (.int .u16 (totN sr ds bs : Int)) ∧ Below W.heap.size W w' := by
  have HT : Hid (add (psN 6 sr ds n) bs = totN sr ds bs) := by show _ = _; rw [← hb.len]; rfl
  have HB := Lib.hid hb
  clear hb
  go_enter Tryz.func188, Tryz.ntmps188
  go_wp2_with fail
  go_at_call 247
  refine (pseudo_any 6 sr ds (n : Int) n (by omega) hsr hds (by omega) (len_wrap n (by omega)) W).mono ?_
  rintro e w1 ⟨rfl, hb1⟩
  have HB1 := Lib.hid (HB.out.below (hb1.mono hB))
  have HW1 := Lib.hid hb1
  have hp := psN_le 6 sr ds n
  clear hb1
  go_wp2_with fail
  go_at_call 187
  refine (Sm.add_any (psN 6 sr ds n) A n c bs w1 B HB1.out hp hc hm).mono ?_
  rintro e w' ⟨rfl, rfl⟩
  go_wp2_with fail
  go_ret
  exact ⟨ret_int (by rw [HT.out]), HW1.out⟩

end Tc
end Go.Proofs.YtcockldefmmhbaaGreatDoor
set_option linter.unusedVariables false
set_option maxRecDepth 100000
set_option linter.unusedSimpArgs false
namespace Go.Proofs.YtcockldefmmhbaaGreatDoor
open Go.ChangeShapes Go.WideShapes Go.ChangeAt Go.RowKit Go.Mtl
namespace Tc
open TcpM (saneB psB psN totN psN_le totN_le errT)
open SumM (add add_le)
open IpM (word word_lt twoB fourB)
open Ip (ret_int MadeO Row But u8_info own_bts own_lit)
set_option maxHeartbeats 2000000 in
theorem check_any (sr ds:Nat) (A:Option Addr) (n c:Nat) (bs:List UInt8) (B:Nat) (W:World) (hb:Bts W B A n bs) (hB:B<=W.heap.size) (hc:n<=c) (hm:c<=9223372036854775807) (hsr:sr < 4294967296) (hds:ds < 4294967296) (he:Env W) :
  Calls Tryz.prog 136 #[.int .u32 (sr:Int),.int .u32 (ds:Int),.slice A n c] W fun e w'=>e = .returned (.int .i64 (errT sr ds bs:Int))/\Below W.heap.size W w':=by
 have hl:=hb.len
 by_cases h20:n < 20
 ·have HF:Hid (errT sr ds bs=4):=by show _=_;unfold errT;rw [if_pos (by omega)]
  clear hb hl
  go_enter Tryz.func136,Tryz.ntmps136
  go_wp2_with fail
  go_ret
  exact ⟨ret_int (by rw [HF.out];rfl),Below.refl _ _⟩
 ·obtain ⟨b,off,rfl,hlt,hcell⟩:=hb.at_ (by omega)
  have c12:=hcell 12 (by omega)
  have c13:=hcell 13 (by omega)
  have i12:(12:Int) < n:=by omega
  have i13:(13:Int) < n:=by omega
  have y12:=byt_lt bs 12
  have y13:=byt_lt bs 13
  have HB:=Lib.hid hb
  have HL:=Lib.hid hl
  clear hb hl hcell
  by_cases h5:byt bs 12 / 16 < 5
  ·have HF:Hid (errT sr ds bs=6):=by show _=_;unfold errT;rw [if_neg (by have:=HL.out;omega),if_pos h5]
   go_enter Tryz.func136,Tryz.ntmps136
   go_wp2_with fail
   go_ret
   exact ⟨ret_int (by rw [HF.out];rfl),Below.refl _ _⟩
  ·by_cases h6:n < byt bs 12 / 16 * 4
   ·have HF:Hid (errT sr ds bs=4):=by show _=_;unfold errT;rw [if_neg (by have:=HL.out;omega),if_neg h5,if_pos (by have:=HL.out;omega)]
    go_enter Tryz.func136,Tryz.ntmps136
    go_wp2_with fail
    go_ret
    exact ⟨ret_int (by rw [HF.out];rfl),Below.refl _ _⟩
   ·have HF:Hid (errT sr ds bs=if totN sr ds bs≠65535 then 7 else if saneB (byt bs 13)=true then 0 else 11):=by
     show _=_;unfold errT;rw [if_neg (by have:=HL.out;omega),if_neg h5,if_neg (by have:=HL.out;omega)]
    have HT:=Lib.hid (total_any sr ds (some ⟨b,off,none⟩) n c bs B W HB.out hB hc hm hsr hds)
    have htl:=totN_le sr ds bs
    generalize totN sr ds bs=r at HT htl HF
    go_enter Tryz.func136,Tryz.ntmps136
    go_wp2_with fail
    go_at_call 188
    refine HT.out.mono ?_
    rintro e w1 ⟨rfl,hb1⟩
    have HW1:=Lib.hid hb1
    have HE1:=Lib.hid (he.below hb1 (Nat.le_refl _))
    have d13:=(hb1.cell (p:=⟨b,off+13,none⟩) (by show b < _;omega)).trans c13
    clear hb1 HT c12 c13
    by_cases h7:r=65535
    ·have d7:((r:Int) != 65535)=false:=by simp;omega
     rw [h7] at HF
     have HF2:Hid (errT sr ds bs=if saneB (byt bs 13)=true then 0 else 11):=by show _=_;rw [HF.out,if_neg (by omega)]
     clear h7 HF
     cases hs:saneB (byt bs 13)
     ·have HF3:Hid (errT sr ds bs=11):=by show _=_;rw [HF2.out,hs];rfl
      have HS:=Lib.hid (sane_any (byt bs 13) y13 false hs w1 HE1.out)
      clear hs HF2
      go_wp2_with fail
      go_at_call 189
      refine HS.out.mono ?_
      rintro e w2 ⟨rfl,hb2⟩
      have bel:=HW1.out.trans (hb2.mono HW1.out.size)
      clear hb2
      go_wp2_with fail
      go_ret
      exact ⟨ret_int (by rw [HF3.out];rfl),bel⟩
     ·have HF3:Hid (errT sr ds bs=0):=by show _=_;rw [HF2.out,hs];rfl
      have HS:=Lib.hid (sane_any (byt bs 13) y13 true hs w1 HE1.out)
      clear hs HF2
      go_wp2_with fail
      go_at_call 189
      refine HS.out.mono ?_
      rintro e w2 ⟨rfl,hb2⟩
      have bel:=HW1.out.trans (hb2.mono HW1.out.size)
      clear hb2
      go_wp2_with fail
      go_ret
      exact ⟨ret_int (by rw [HF3.out];rfl),bel⟩
    ·have d7:((r:Int) != 65535)=true:=by simp;omega
     have HF3:Hid (errT sr ds bs=7):=by show _=_;rw [HF.out,if_pos (by omega)]
     clear h7 HF
     go_wp2_with fail
     go_ret
     exact ⟨ret_int (by rw [HF3.out];rfl),HW1.out⟩
theorem and63 (x:Nat) (h:x < 256):bits .and .u8 (x:Int) 63=(x:Int) % 64:=by
 have h1:=and_u8 x 63 h (by omega)
 have h2:x &&& 63=x % 64:=Nat.and_two_pow_sub_one_eq_mod x 6
 rw [h2] at h1
 exact h1.trans (by omega)
abbrev badV (e:Nat):Value:=.tuple #[.int .u16 0,.int .u16 0,.int .u8 0,.int .i64 (e:Int)]
abbrev okV (bs:List UInt8):Value:=.tuple #[.int .u16 (word bs 0:Int),.int .u16 (word bs 2:Int),.int .u8 ((byt bs 13:Int) % 64),.int .i64 0]
def pV (e:Nat) (bs:List UInt8):Value:=if e=0 then okV bs else badV e
theorem pV_ok {e:Nat} (bs:List UInt8) (h:e=0):pV e bs=okV bs:=by unfold pV;rw [if_pos h]
theorem pV_bad {e:Nat} (bs:List UInt8) (h:e≠0):pV e bs=badV e:=by unfold pV;rw [if_neg h]
theorem parse_bad (sr ds:Nat) (A:Option Addr) (n c:Nat) (bs:List UInt8) (B:Nat) (W:World) (hb:Bts W B A n bs) (hB:B<=W.heap.size) (hc:n<=c) (hm:c<=9223372036854775807) (hsr:sr < 4294967296) (hds:ds < 4294967296) (he:Env W) (h0:errT sr ds bs≠0) :
  Calls Tryz.prog 96 #[.int .u32 (sr:Int),.int .u32 (ds:Int),.slice A n c] W fun e w'=>e = .returned (badV (errT sr ds bs))/\Below W.heap.size W w':=by
 have HC:=Lib.hid (check_any sr ds A n c bs B W hb hB hc hm hsr hds he)
 have d:((errT sr ds bs:Int) != 0)=true:=by simp;omega
 generalize errT sr ds bs=er at HC d
 clear hb h0
 go_enter Tryz.func96,Tryz.ntmps96
 go_wp2_with fail
 go_at_call 136
 refine HC.out.mono ?_
 rintro e w1 ⟨rfl,hb1⟩
 have HW1:=Lib.hid hb1
 clear hb1
 go_wp2_with fail
 exact bodyPost_ret (v:=badV er) (by simp [results,Tryz.results96,go_sem]) rfl ⟨rfl,HW1.out⟩
theorem port_int (A:Option Addr) (n c:Nat) (bs:List UInt8) (B:Nat) (a:Int) (W:World) (hb:Bts W B A n bs) (hc:n<=c) (hm:c<=9223372036854775807) (h0:0<=a) (h3:a+2<=n) :
  Calls Tryz.prog 137 #[.slice A n c,.int .i64 a] W fun e w'=>e = .returned (.int .u16 (word bs a.toNat:Int))/\w'=W:=by
 obtain ⟨a,rfl⟩:=Int.eq_ofNat_of_zero_le h0
 exact (port_any A n c bs B a W hb hc hm (by omega)).mono fun _ _ ⟨h1,h2⟩=>⟨h1,h2.symm⟩
set_option maxHeartbeats 1000000 in
theorem parse_ok (sr ds:Nat) (A:Option Addr) (n c:Nat) (bs:List UInt8) (B:Nat) (W:World) (hb:Bts W B A n bs) (hB:B<=W.heap.size) (hc:n<=c) (hm:c<=9223372036854775807) (hsr:sr < 4294967296) (hds:ds < 4294967296) (he:Env W) (h0:errT sr ds bs=0) :
  Calls Tryz.prog 96 #[.int .u32 (sr:Int),.int .u32 (ds:Int),.slice A n c] W fun e w'=>e = .returned (okV bs)/\Below W.heap.size W w':=by
 have HC:=Lib.hid (check_any sr ds A n c bs B W hb hB hc hm hsr hds he)
 have h20:=TcpM.errT_len h0
 rw [hb.len] at h20
 rw [h0] at HC
 have HB:=Lib.hid hb
 have w0:=word_lt bs 0
 have w2:=word_lt bs 2
 have y13:=byt_lt bs 13
 have i13:(13:Int) < n:=by omega
 have a63:=and63 (byt bs 13) y13
 clear hb h0
 go_enter Tryz.func96,Tryz.ntmps96
 go_wp2_with fail
 go_at_call 136
 refine HC.out.mono ?_
 rintro e w1 ⟨rfl,hb1⟩
 have HW1:=Lib.hid hb1
 have HB1:=HB.out.below (hb1.mono hB)
 obtain ⟨b,off,rfl,-,hcell⟩:=HB1.at_ (by omega)
 have c13:=hcell 13 (by omega)
 have HB1:=Lib.hid HB1
 clear hb1 hcell HC
 go_wp2_with fail
 go_quiet ((go_at_call 137;exact Calls.quiet_of_same (port_int (some ⟨b,off,none⟩) n c bs B _ _ (HB1.out.drewN _) hc hm (by omega) (by omega))))
 go_wp2_with fail
 exact bodyPost_ret (v:=okV bs) (by simp [results,Tryz.results96,go_sem]) rfl ⟨rfl,below_drewN' HW1.out _⟩
theorem parse_any (sr ds:Nat) (A:Option Addr) (n c:Nat) (bs:List UInt8) (B:Nat) (W:World) (hb:Bts W B A n bs) (hB:B<=W.heap.size) (hc:n<=c) (hm:c<=9223372036854775807) (hsr:sr < 4294967296) (hds:ds < 4294967296) (he:Env W) :
  Calls Tryz.prog 96 #[.int .u32 (sr:Int),.int .u32 (ds:Int),.slice A n c] W fun e w'=>e = .returned (pV (errT sr ds bs) bs)/\Below W.heap.size W w':=by
 by_cases h0:errT sr ds bs=0
 ·rw [pV_ok bs h0];exact parse_ok sr ds A n c bs B W hb hB hc hm hsr hds he h0
 ·rw [pV_bad bs h0];exact parse_bad sr ds A n c bs B W hb hB hc hm hsr hds he h0
end Tc
end Go.Proofs.YtcockldefmmhbaaGreatDoor
set_option linter.unusedVariables false
set_option maxRecDepth 100000
set_option linter.unusedSimpArgs false
namespace Go.Proofs.YtcockldefmmhbaaGreatDoor
open Go.ChangeShapes Go.WideShapes Go.ChangeAt Go.RowKit Go.Mtl
namespace Ic
open IcM (echoB echo_yes echo_no errI two)
open SumM (add add_le)
open IpM (word word_lt twoB)
open Ip (ret_int MadeO Row But u8_info own_bts own_lit)
theorem isEcho_any (kd:Nat) (b:Bool) (hb:echoB kd=b) (W:World) :
  Calls Tryz.prog 192 #[.int .u8 (kd:Int)] W fun e w'=>e = .returned (.bool b)/\W=w':=by
 cases b
 ·obtain ⟨h8,h0⟩:=echo_no hb
  have d8:((kd:Int) == 8)=false:=by simp;omega
  have d0:((kd:Int) == 0)=false:=by simp;omega
  clear hb h8 h0
  go_enter Tryz.func192,Tryz.ntmps192
  go_wp2_with fail
  go_ret
  exact ⟨rfl,rfl⟩
 ·rcases echo_yes hb with rfl | rfl
  ·go_enter Tryz.func192,Tryz.ntmps192
   go_wp2_with fail
   go_ret
   exact ⟨rfl,rfl⟩
  ·go_enter Tryz.func192,Tryz.ntmps192
   go_wp2_with fail
   go_ret
   exact ⟨rfl,rfl⟩
set_option maxHeartbeats 2000000 in
theorem check_any (A:Option Addr) (n c:Nat) (bs:List UInt8) (B:Nat) (W:World) (hb:Bts W B A n bs) (hB:B<=W.heap.size) (hc:n<=c) (hm:c<=9223372036854775807) :
  Calls Tryz.prog 140 #[.slice A n c] W fun e w'=>e = .returned (.int .i64 (errI bs:Int))/\W=w':=by
 have hl:=hb.len
 by_cases h8:n < 8
 ·have HF:Hid (errI bs=4):=by show _=_;unfold errI;rw [if_pos (by omega)]
  clear hb hl
  go_enter Tryz.func140,Tryz.ntmps140
  go_wp2_with fail
  go_ret
  exact ⟨ret_int (by rw [HF.out];rfl),rfl⟩
 ·have HT:=Lib.hid (Sm.add0_any A n c bs W B hb hc hm)
  obtain ⟨b,off,rfl,hlt,hcell⟩:=hb.at_ (by omega)
  have c0:W.cell? ⟨b,off,none⟩=_:=hcell 0 (by omega)
  have c1:=hcell 1 (by omega)
  have y0:=byt_lt bs 0
  have y1:=byt_lt bs 1
  have htl:=add_le 0 bs
  have HE:Hid (errI bs=if add 0 bs=65535 then (if echoB (byt bs 0)=true then (if byt bs 1=0 then 0 else 10) else 10) else 7):=by show _=_;unfold errI;rw [if_neg (by omega)]
  have HK:=Lib.hid (fun W b h=>isEcho_any (byt bs 0) b h W)
  clear hb hl hcell
  generalize add 0 bs=t at HE HT htl
  generalize byt bs 0=k at *
  generalize byt bs 1=cd at *
  by_cases h9:t=65535
  ·have d7:((t:Int) != 65535)=false:=by simp;omega
   cases hk:echoB k
   ·have HF:Hid (errI bs=10):=by show _=_;rw [HE.out,if_pos h9,hk];rfl
    have HK:=Lib.hid (HK.out W false hk)
    clear h9 HE hk
    go_enter Tryz.func140,Tryz.ntmps140
    go_wp2_with fail
    go_at_call 187
    refine HT.out.mono ?_
    rintro e w1 ⟨rfl,rfl⟩
    go_wp2_with fail
    go_at_call 192
    refine HK.out.mono ?_
    rintro e w1 ⟨rfl,rfl⟩
    go_wp2_with fail
    go_ret
    exact ⟨ret_int (by rw [HF.out];rfl),rfl⟩
   ·have HK:=Lib.hid (HK.out W true hk)
    by_cases hcd:cd=0
    ·have HF:Hid (errI bs=0):=by show _=_;rw [HE.out,if_pos h9,if_pos hk,if_pos hcd]
     have d0:((cd:Int) != 0)=false:=by simp;omega
     clear h9 HE hk hcd
     go_enter Tryz.func140,Tryz.ntmps140
     go_wp2_with fail
     go_at_call 187
     refine HT.out.mono ?_
     rintro e w1 ⟨rfl,rfl⟩
     go_wp2_with fail
     go_at_call 192
     refine HK.out.mono ?_
     rintro e w1 ⟨rfl,rfl⟩
     go_wp2_with fail
     go_ret
     exact ⟨ret_int (by rw [HF.out];rfl),rfl⟩
    ·have HF:Hid (errI bs=10):=by show _=_;rw [HE.out,if_pos h9,if_pos hk,if_neg hcd]
     have d0:((cd:Int) != 0)=true:=by simp;omega
     clear h9 HE hk hcd
     go_enter Tryz.func140,Tryz.ntmps140
     go_wp2_with fail
     go_at_call 187
     refine HT.out.mono ?_
     rintro e w1 ⟨rfl,rfl⟩
     go_wp2_with fail
     go_at_call 192
     refine HK.out.mono ?_
     rintro e w1 ⟨rfl,rfl⟩
     go_wp2_with fail
     go_ret
     exact ⟨ret_int (by rw [HF.out];rfl),rfl⟩
  ·have d7:((t:Int) != 65535)=true:=by simp;omega
   have HF:Hid (errI bs=7):=by show _=_;rw [HE.out,if_neg h9]
   clear h9 HE
   go_enter Tryz.func140,Tryz.ntmps140
   go_wp2_with fail
   go_at_call 187
   refine HT.out.mono ?_
   rintro e w1 ⟨rfl,rfl⟩
   go_wp2_with fail
   go_ret
   exact ⟨ret_int (by rw [HF.out];rfl),rfl⟩
abbrev badV (e:Nat):Value:=.tuple #[.int .u8 0,.int .u16 0,.int .i64 (e:Int)]
abbrev okV (bs:List UInt8):Value:=.tuple #[.int .u8 (byt bs 0:Int),.int .u16 (word bs 4:Int),.int .i64 0]
def pV (e:Nat) (bs:List UInt8):Value:=if e=0 then okV bs else badV e
theorem pV_ok {e:Nat} (bs:List UInt8) (h:e=0):pV e bs=okV bs:=by unfold pV;rw [if_pos h]
theorem pV_bad {e:Nat} (bs:List UInt8) (h:e≠0):pV e bs=badV e:=by unfold pV;rw [if_neg h]
theorem or_word (a b:Nat) (ha:a < 256) (hb:b < 256):bits .or .u16 ((a:Int) * 256) (b:Int)=((a * 256+b:Nat):Int):=by
 have e:(a:Int) * 256=((a * 256:Nat):Int):=by omega
 rw [e]
 show IntKind.u16.wrap ((BitVec.ofInt 16 ((a * 256:Nat):Int) ||| BitVec.ofInt 16 (b:Int)).toNat:Int)=_
 rw [BitVec.ofInt_natCast,BitVec.ofInt_natCast,BitVec.toNat_or,BitVec.toNat_ofNat,BitVec.toNat_ofNat,Nat.mod_eq_of_lt (by omega),Nat.mod_eq_of_lt (by omega)]
 have h:=Nat.shiftLeft_add_eq_or_of_lt (i:=8) (by omega:b < 2 ^ 8) a
 rw [Nat.shiftLeft_eq,show 2 ^ 8=256 from rfl] at h
 rw [← h]
 simp [IntKind.wrap,IntKind.bits,IntKind.signed]
 omega
theorem parse_bad (A:Option Addr) (n c:Nat) (bs:List UInt8) (B:Nat) (W:World) (hb:Bts W B A n bs) (hB:B<=W.heap.size) (hc:n<=c) (hm:c<=9223372036854775807) (h0:errI bs≠0) :
  Calls Tryz.prog 98 #[.slice A n c] W fun e w'=>e = .returned (badV (errI bs))/\Below W.heap.size W w':=by
 have HC:=Lib.hid (check_any A n c bs B W hb hB hc hm)
 have d:((errI bs:Int) != 0)=true:=by simp;omega
 generalize errI bs=er at HC d
 clear hb h0
 go_enter Tryz.func98,Tryz.ntmps98
 go_wp2_with fail
 go_at_call 140
 refine HC.out.mono ?_
 rintro e w1 ⟨rfl,rfl⟩
 go_wp2_with fail
 exact bodyPost_ret (v:=badV er) (by simp [results,Tryz.results98,go_sem]) rfl ⟨rfl,Below.refl _ _⟩
set_option maxHeartbeats 1000000 in
theorem parse_ok (A:Option Addr) (n c:Nat) (bs:List UInt8) (B:Nat) (W:World) (hb:Bts W B A n bs) (hB:B<=W.heap.size) (hc:n<=c) (hm:c<=9223372036854775807) (h0:errI bs=0) :
  Calls Tryz.prog 98 #[.slice A n c] W fun e w'=>e = .returned (okV bs)/\Below W.heap.size W w':=by
 have HC:=Lib.hid (check_any A n c bs B W hb hB hc hm)
 have h8:=IcM.errI_len h0
 rw [hb.len] at h8
 rw [h0] at HC
 obtain ⟨b,off,rfl,hlt,hcell⟩:=hb.at_ (by omega)
 have c0:W.cell? ⟨b,off,none⟩=_:=hcell 0 (by omega)
 have c4:=hcell 4 (by omega)
 have c5:=hcell 5 (by omega)
 have y0:=byt_lt bs 0
 have y4:=byt_lt bs 4
 have y5:=byt_lt bs 5
 have HW:Hid (bits .or .u16 ((byt bs 4:Int) * 256) (byt bs 5:Int)=(word bs 4:Int)):=or_word _ _ y4 y5
 clear hb h0 hcell
 go_enter Tryz.func98,Tryz.ntmps98
 go_wp2_with fail
 go_at_call 140
 refine HC.out.mono ?_
 rintro e w1 ⟨rfl,rfl⟩
 clear HC
 go_wp2_with fail
 go_quiet (fail)
 go_wp2_with fail
 exact bodyPost_ret (v:=okV bs) (by simp [results,Tryz.results98,go_sem,HW.out]) rfl ⟨rfl,below_drewN' (Below.refl _ _) _⟩
theorem parse_any (A:Option Addr) (n c:Nat) (bs:List UInt8) (B:Nat) (W:World) (hb:Bts W B A n bs) (hB:B<=W.heap.size) (hc:n<=c) (hm:c<=9223372036854775807) :
  Calls Tryz.prog 98 #[.slice A n c] W fun e w'=>e = .returned (pV (errI bs) bs)/\Below W.heap.size W w':=by
 by_cases h0:errI bs=0
 ·rw [pV_ok bs h0];exact parse_ok A n c bs B W hb hB hc hm h0
 ·rw [pV_bad bs h0];exact parse_bad A n c bs B W hb hB hc hm h0
end Ic
end Go.Proofs.YtcockldefmmhbaaGreatDoor
set_option linter.unusedVariables false
set_option maxRecDepth 100000
set_option linter.unusedSimpArgs false
namespace Go.Proofs.YtcockldefmmhbaaGreatDoor
open Go.ChangeShapes Go.WideShapes Go.ChangeAt Go.RowKit Go.Mtl
namespace Tc
open TcpM (saneB psB psN totN psN_le totN_le errT)
open SumM (add add_le)
open IpM (word word_lt twoB fourB)
open Ip (ret_int MadeO Row But u8_info own_bts own_lit row_of_own)
structure TAt (W w:World) (B:Nat) (A:Option Addr) (n:Nat) (x:List UInt8) (g:Nat) (l:List UInt8):Prop where
 row:Row w g l
 lt:W.heap.size<=g
 bel:Below W.heap.size W w
 bts:Bts w B A n x
 hB:B<=W.heap.size
section
variable {W w w':World} {B:Nat} {A:Option Addr} {n:Nat} {x:List UInt8} {g:Nat} {l l':List UInt8}
theorem TAt.but (h:TAt W w B A n x g l) (hr:Row w' g l') (hb:But g w w'):TAt W w' B A n x g l':=by
 have h1:=h.row.lt
 have h2:=h.lt
 have h3:=h.hB
 exact ⟨hr,h.lt,h.bel.grown hb h.bel.size (by intro k hk;injection hk with hk;omega),h.bts.keep fun p hp=>World.cell?_of_block (hb.block p.block (by omega) (by simp;omega)),h.hB⟩
theorem TAt.below (h:TAt W w B A n x g l) (hb:Below w.heap.size w w'):TAt W w' B A n x g l :=
 ⟨(hb.block g h.row.lt).trans h.row,h.lt,h.bel.trans (hb.mono h.bel.size),h.bts.below (hb.mono (Nat.le_trans h.hB h.bel.size)),h.hB⟩
theorem but_setCell (w:World) (g i:Nat) (u:Value):But g w (w.setCell ⟨g,i,none⟩ u) :=
 ⟨rfl,rfl,rfl,by simp [World.setCell],fun k _ hk=>Below.heap_setCell w ⟨g,i,none⟩ u k (fun e=>hk (by rw [e]))⟩
theorem TAt.set (h:TAt W w B A n x g l) (j:Nat) (v:Int) (c:UInt8) (hv:v=(c.toNat:Int)):TAt W (w.setCell ⟨g,j,none⟩ (.int .u8 v)) B A n x g (l.set j c) :=
 h.but (h.row.set j v c hv) (but_setCell w g j _)
end
end Tc
end Go.Proofs.YtcockldefmmhbaaGreatDoor
set_option linter.unusedVariables false
set_option maxRecDepth 100000
set_option linter.unusedSimpArgs false
namespace Go.Proofs.YtcockldefmmhbaaGreatDoor
open Go.ChangeShapes Go.WideShapes Go.ChangeAt Go.RowKit Go.Mtl
namespace Tc
open TcpM (saneB psB psN totN psN_le totN_le errT)
open SumM (add add_le)
open IpM (word word_lt twoB fourB)
open Ip (ret_int MadeO Row But u8_info own_bts own_lit)
end Tc
end Go.Proofs.YtcockldefmmhbaaGreatDoor
set_option linter.unusedVariables false
set_option maxRecDepth 100000
set_option linter.unusedSimpArgs false
namespace Go.Proofs.YtcockldefmmhbaaGreatDoor
open Go.ChangeShapes Go.WideShapes Go.ChangeAt Go.RowKit Go.Mtl
namespace Ud
open TcpM (psB psN psN_le)
open UdpM (totU totU_le errU two)
open SumM (add add_le)
open IpM (word word_lt twoB fourB)
open Ip (ret_int MadeO Row But u8_info own_bts own_lit)
theorem or_word (a b:Nat) (ha:a < 256) (hb:b < 256):bits .or .u16 ((a:Int) * 256) (b:Int)=((a * 256+b:Nat):Int):=by
 have e:(a:Int) * 256=((a * 256:Nat):Int):=by omega
 rw [e]
 show IntKind.u16.wrap ((BitVec.ofInt 16 ((a * 256:Nat):Int) ||| BitVec.ofInt 16 (b:Int)).toNat:Int)=_
 rw [BitVec.ofInt_natCast,BitVec.ofInt_natCast,BitVec.toNat_or,BitVec.toNat_ofNat,BitVec.toNat_ofNat,Nat.mod_eq_of_lt (by omega),Nat.mod_eq_of_lt (by omega)]
 have h:=Nat.shiftLeft_add_eq_or_of_lt (i:=8) (by omega:b < 2 ^ 8) a
 rw [Nat.shiftLeft_eq,show 2 ^ 8=256 from rfl] at h
 rw [← h]
 simp [IntKind.wrap,IntKind.bits,IntKind.signed]
 omega
theorem word_any (A:Option Addr) (n c:Nat) (bs:List UInt8) (B:Nat) (a:Nat) (W:World) (hb:Bts W B A n bs) (hc:n<=c) (hm:c<=9223372036854775807) (h2:a+2<=n) :
  Calls Tryz.prog 139 #[.slice A n c,.int .i64 (a:Int)] W fun e w'=>e = .returned (.int .u16 (word bs a:Int))/\∃ k,w'=W.drewN k:=by
 obtain ⟨b,off,rfl,hlt,hcell⟩:=hb.at_ (by omega)
 have c0:=hcell a (by omega)
 have c1:=hcell (a+1) (by omega)
 have y0:=byt_lt bs a
 have y1:=byt_lt bs (a+1)
 have HF:Hid (bits .or .u16 ((byt bs a:Int) * 256) (byt bs (a+1):Int)=(word bs a:Int)):=or_word _ _ y0 y1
 have i0:(a:Int) < n:=by omega
 have i1:(a:Int)+1 < n:=by omega
 have i2:a < n:=by omega
 clear hb hcell
 go_enter Tryz.func139,Tryz.ntmps139
 go_wp2
 go_quiet (fail)
 go_wp2
 go_ret
 exact ⟨ret_int (by rw [← HF.out]),_,rfl⟩
theorem word_int (A:Option Addr) (n c:Nat) (bs:List UInt8) (B:Nat) (a:Int) (W:World) (hb:Bts W B A n bs) (hc:n<=c) (hm:c<=9223372036854775807) (h0:0<=a) (h3:a+2<=n) :
  Calls Tryz.prog 139 #[.slice A n c,.int .i64 a] W fun e w'=>e = .returned (.int .u16 (word bs a.toNat:Int))/\∃ k,w'=W.drewN k:=by
 obtain ⟨a,rfl⟩:=Int.eq_ofNat_of_zero_le h0
 exact word_any A n c bs B a W hb hc hm (by omega)
theorem total_any (sr ds:Nat) (A:Option Addr) (n c:Nat) (bs:List UInt8) (B:Nat) (W:World) (hb:Bts W B A n bs) (hB:B<=W.heap.size) (hc:n<=c) (hm:c<=9223372036854775807) (hsr:sr < 4294967296) (hds:ds < 4294967296) :
  Calls Tryz.prog 191 #[.int .u32 (sr:Int),.int .u32 (ds:Int),.slice A n c] W fun e w'=>e = .returned (.int .u16 (totU sr ds bs:Int))/\Below W.heap.size W w':=by
 have HT:Hid (add (psN 17 sr ds n) bs=totU sr ds bs):=by show _=_;rw [← hb.len];rfl
 have HB:=Lib.hid hb
 clear hb
 go_enter Tryz.func191,Tryz.ntmps191
 go_wp2_with fail
 go_at_call 247
 refine (Tc.pseudo_any 17 sr ds (n:Int) n (by omega) hsr hds (by omega) (Tc.len_wrap n (by omega)) W).mono ?_
 rintro e w1 ⟨rfl,hb1⟩
 have HB1:=Lib.hid (HB.out.below (hb1.mono hB))
 have HW1:=Lib.hid hb1
 have hp:=psN_le 17 sr ds n
 clear hb1
 go_wp2_with fail
 go_at_call 187
 refine (Sm.add_any (psN 17 sr ds n) A n c bs w1 B HB1.out hp hc hm).mono ?_
 rintro e w' ⟨rfl,rfl⟩
 go_wp2_with fail
 go_ret
 exact ⟨ret_int (by rw [HT.out]),HW1.out⟩
end Ud
end Go.Proofs.YtcockldefmmhbaaGreatDoor
set_option linter.unusedVariables false
set_option maxRecDepth 100000
namespace Go.Proofs.YtcockldefmmhbaaGreatDoor
open Go.ChangeShapes Go.WideShapes Go.ChangeAt Go.RowKit Go.Mtl
namespace Ip
open IpM (word four hs tl word_lt four_lt errC errN body)
theorem parse_wrong (A:Option Addr) (n c:Nat) (bs:List UInt8) (B:Nat) (W:World) (hb:Bts W B A n bs) (hB:B<=W.heap.size) (hc:n<=c) (hm:c<=9223372036854775807) (he:errN bs≠0) :
  Calls Tryz.prog 95 #[.slice A n c] W fun e w'=>e = .returned (badV (errN bs))/\Below W.heap.size W w':=by
 have hl:=hb.len
 unfold errN at he ⊢
 by_cases h1:1500 < bs.length
 ·rw [if_pos h1];exact parse_long A n c bs B W hb hc hm (by omega)
 ·rw [if_neg h1] at he ⊢
  by_cases h2:bs.length < 20
  ·rw [if_pos h2];exact parse_short A n c bs B W hb hc hm (by omega)
  ·rw [if_neg h2] at he ⊢;exact parse_bad A n c bs B W hb hB hc hm (by omega) (by omega) he
theorem parse_rightN (A:Option Addr) (n c:Nat) (bs:List UInt8) (B:Nat) (W:World) (hb:Bts W B A n bs) (hB:B<=W.heap.size) (hc:n<=c) (hm:c<=9223372036854775807) (he:errN bs=0) :
  Calls Tryz.prog 95 #[.slice A n c] W (ParsedN W bs):=by
 obtain ⟨h1,h2,h3⟩:=IpM.errN_zero he
 rw [hb.len] at h1 h2
 exact parse_okN A n c bs B W hb hB hc hm h2 h1 h3
end Ip
end Go.Proofs.YtcockldefmmhbaaGreatDoor
set_option linter.unusedVariables false
set_option maxRecDepth 100000
set_option linter.unusedSimpArgs false
namespace Go.Proofs.YtcockldefmmhbaaGreatDoor
open Go.ChangeShapes Go.WideShapes Go.ChangeAt Go.RowKit Go.Mtl
namespace Ud
open TcpM (psB psN psN_le)
open UdpM (totU totU_le errU two)
open SumM (add add_le)
open IpM (word word_lt twoB fourB)
open Ip (ret_int MadeO Row But u8_info own_bts own_lit)
set_option maxHeartbeats 2000000 in
theorem check_any (sr ds:Nat) (A:Option Addr) (n c:Nat) (bs:List UInt8) (B:Nat) (W:World) (hb:Bts W B A n bs) (hB:B<=W.heap.size) (hc:n<=c) (hm:c<=9223372036854775807) (hsr:sr < 4294967296) (hds:ds < 4294967296) :
  Calls Tryz.prog 138 #[.int .u32 (sr:Int),.int .u32 (ds:Int),.slice A n c] W fun e w'=>e = .returned (.int .i64 (errU sr ds bs:Int))/\Below W.heap.size W w':=by
 have hl:=hb.len
 by_cases h8:n < 8
 ·have HF:Hid (errU sr ds bs=4):=by show _=_;unfold errU;rw [if_pos (by omega)]
  clear hb hl
  go_enter Tryz.func138,Tryz.ntmps138
  go_wp2_with fail
  go_ret
  exact ⟨ret_int (by rw [HF.out];rfl),Below.refl _ _⟩
 ·obtain ⟨b,off,rfl,hlt,hcell⟩:=hb.at_ (by omega)
  have HB:=Lib.hid hb
  have HL:=Lib.hid hl
  have HW4:=Lib.hid (fun W (hb:Bts W B (some ⟨b,off,none⟩) n bs)=>word_int (some ⟨b,off,none⟩) n c bs B 4 W hb hc hm (by omega) (by omega))
  have HW6:=Lib.hid (fun W (hb:Bts W B (some ⟨b,off,none⟩) n bs)=>word_int (some ⟨b,off,none⟩) n c bs B 6 W hb hc hm (by omega) (by omega))
  have v4:=word_lt bs 4
  have v6:=word_lt bs 6
  have HE:Hid (errU sr ds bs=if word bs 4 < 8 then 6 else if n < word bs 4 then 4 else if word bs 6=0 then 0 else if totU sr ds (bs.take (word bs 4))=65535 then 0 else 7):=by
   show _=_;unfold errU;rw [if_neg (by omega),hl]
  have HT:=Lib.hid (fun W (hb:Bts W B (some ⟨b,off,none⟩) n bs) (hB:B<=W.heap.size) (hk:word bs 4<=n)=>total_any sr ds (some ⟨b,off,none⟩) (word bs 4) c (bs.take (word bs 4)) B W (hb.front _ hk) hB (by omega) hm hsr hds)
  have htl:=totU_le sr ds (bs.take (word bs 4))
  clear hb hl hcell
  have e4:word bs (4:Int).toNat=word bs 4:=rfl
  have e6:word bs (6:Int).toNat=word bs 6:=rfl
  rw [e4] at HW4
  rw [e6] at HW6
  generalize totU sr ds (bs.take (word bs 4))=t at HE HT htl
  generalize word bs 4=v at HW4 v4 HE HT
  generalize word bs 6=u at HW6 v6 HE
  by_cases h5:v < 8
  ·have HF:Hid (errU sr ds bs=6):=by show _=_;rw [HE.out,if_pos h5]
   go_enter Tryz.func138,Tryz.ntmps138
   go_wp2_with fail
   go_at_call 139
   refine (HW4.out _ HB.out).mono ?_
   rintro e w1 ⟨rfl,k,rfl⟩
   go_wp2_with fail
   go_ret
   exact ⟨ret_int (by rw [HF.out];rfl),below_drewN' (Below.refl _ _) _⟩
  ·by_cases h6:n < v
   ·have HF:Hid (errU sr ds bs=4):=by show _=_;rw [HE.out,if_neg h5,if_pos h6]
    go_enter Tryz.func138,Tryz.ntmps138
    go_wp2_with fail
    go_at_call 139
    refine (HW4.out _ HB.out).mono ?_
    rintro e w1 ⟨rfl,k,rfl⟩
    go_wp2_with fail
    go_ret
    exact ⟨ret_int (by rw [HF.out];rfl),below_drewN' (Below.refl _ _) _⟩
   ·by_cases h7:u=0
    ·have HF:Hid (errU sr ds bs=0):=by show _=_;rw [HE.out,if_neg h5,if_neg h6,if_pos h7]
     subst h7
     go_enter Tryz.func138,Tryz.ntmps138
     go_wp2_with fail
     go_at_call 139
     refine (HW4.out _ HB.out).mono ?_
     rintro e w1 ⟨rfl,k,rfl⟩
     go_wp2_with fail
     go_at_call 139
     refine (HW6.out _ (HB.out.drewN _)).mono ?_
     rintro e w1 ⟨rfl,k2,rfl⟩
     go_wp2_with fail
     go_ret
     exact ⟨ret_int (by rw [HF.out];rfl),below_drewN' (Below.refl _ _) _⟩
    ·have d6:((u:Int) != 0)=true:=by simp;omega
     have HE2:Hid (errU sr ds bs=if t=65535 then 0 else 7):=by show _=_;rw [HE.out,if_neg h5,if_neg h6,if_neg h7]
     clear HE
     go_enter Tryz.func138,Tryz.ntmps138
     go_wp2_with fail
     go_at_call 139
     refine (HW4.out _ HB.out).mono ?_
     rintro e w1 ⟨rfl,k,rfl⟩
     go_wp2_with fail
     go_at_call 139
     refine (HW6.out _ (HB.out.drewN _)).mono ?_
     rintro e w1 ⟨rfl,k2,rfl⟩
     go_wp2_with fail
     go_at_call 191
     refine (HT.out _ (HB.out.drewN _) hB (by omega)).mono ?_
     rintro e w3 ⟨rfl,hb3⟩
     have HW3:=Lib.hid ((below_drewN' (Below.refl _ W) (k+k2)).trans hb3)
     clear hb3 HT HW4 HW6
     by_cases h9:t=65535
     ·have d7:((t:Int) != 65535)=false:=by simp;omega
      have HF:Hid (errU sr ds bs=0):=by show _=_;rw [HE2.out,if_pos h9]
      clear h9 HE2
      go_wp2_with fail
      go_ret
      exact ⟨ret_int (by rw [HF.out];rfl),HW3.out⟩
     ·have d7:((t:Int) != 65535)=true:=by simp;omega
      have HF:Hid (errU sr ds bs=7):=by show _=_;rw [HE2.out,if_neg h9]
      clear h9 HE2
      go_wp2_with fail
      go_ret
      exact ⟨ret_int (by rw [HF.out];rfl),HW3.out⟩
abbrev badV (e:Nat):Value:=.tuple #[.int .u16 0,.int .u16 0,.int .i64 (e:Int)]
abbrev okV (bs:List UInt8):Value:=.tuple #[.int .u16 (word bs 0:Int),.int .u16 (word bs 2:Int),.int .i64 0]
def pV (e:Nat) (bs:List UInt8):Value:=if e=0 then okV bs else badV e
theorem pV_ok {e:Nat} (bs:List UInt8) (h:e=0):pV e bs=okV bs:=by unfold pV;rw [if_pos h]
theorem pV_bad {e:Nat} (bs:List UInt8) (h:e≠0):pV e bs=badV e:=by unfold pV;rw [if_neg h]
theorem parse_bad (sr ds:Nat) (A:Option Addr) (n c:Nat) (bs:List UInt8) (B:Nat) (W:World) (hb:Bts W B A n bs) (hB:B<=W.heap.size) (hc:n<=c) (hm:c<=9223372036854775807) (hsr:sr < 4294967296) (hds:ds < 4294967296) (h0:errU sr ds bs≠0) :
  Calls Tryz.prog 97 #[.int .u32 (sr:Int),.int .u32 (ds:Int),.slice A n c] W fun e w'=>e = .returned (badV (errU sr ds bs))/\Below W.heap.size W w':=by
 have HC:=Lib.hid (check_any sr ds A n c bs B W hb hB hc hm hsr hds)
 have d:((errU sr ds bs:Int) != 0)=true:=by simp;omega
 generalize errU sr ds bs=er at HC d
 clear hb h0
 go_enter Tryz.func97,Tryz.ntmps97
 go_wp2_with fail
 go_at_call 138
 refine HC.out.mono ?_
 rintro e w1 ⟨rfl,hb1⟩
 have HW1:=Lib.hid hb1
 clear hb1
 go_wp2_with fail
 exact bodyPost_ret (v:=badV er) (by simp [results,Tryz.results97,go_sem]) rfl ⟨rfl,HW1.out⟩
set_option maxHeartbeats 1000000 in
theorem parse_ok (sr ds:Nat) (A:Option Addr) (n c:Nat) (bs:List UInt8) (B:Nat) (W:World) (hb:Bts W B A n bs) (hB:B<=W.heap.size) (hc:n<=c) (hm:c<=9223372036854775807) (hsr:sr < 4294967296) (hds:ds < 4294967296) (h0:errU sr ds bs=0) :
  Calls Tryz.prog 97 #[.int .u32 (sr:Int),.int .u32 (ds:Int),.slice A n c] W fun e w'=>e = .returned (okV bs)/\Below W.heap.size W w':=by
 have HC:=Lib.hid (check_any sr ds A n c bs B W hb hB hc hm hsr hds)
 have h8:=UdpM.errU_len h0
 rw [hb.len] at h8
 rw [h0] at HC
 have HB:=Lib.hid hb
 have w0:=word_lt bs 0
 have w2:=word_lt bs 2
 clear hb h0
 go_enter Tryz.func97,Tryz.ntmps97
 go_wp2_with fail
 go_at_call 138
 refine HC.out.mono ?_
 rintro e w1 ⟨rfl,hb1⟩
 have HW1:=Lib.hid hb1
 have HB1:=Lib.hid (HB.out.below (hb1.mono hB))
 clear hb1 HC
 go_wp2_with fail
 go_at_call 139
 refine (word_int A n c bs B 0 w1 HB1.out hc hm (by omega) (by omega)).mono ?_
 rintro e w' ⟨rfl,k,rfl⟩
 go_wp2_with fail
 go_at_call 139
 refine (word_int A n c bs B 2 _ (HB1.out.drewN k) hc hm (by omega) (by omega)).mono ?_
 rintro e w' ⟨rfl,k2,rfl⟩
 go_wp2_with fail
 exact bodyPost_ret (v:=okV bs) (by simp [results,Tryz.results97,go_sem]) rfl ⟨rfl,below_drewN' HW1.out _⟩
theorem parse_any (sr ds:Nat) (A:Option Addr) (n c:Nat) (bs:List UInt8) (B:Nat) (W:World) (hb:Bts W B A n bs) (hB:B<=W.heap.size) (hc:n<=c) (hm:c<=9223372036854775807) (hsr:sr < 4294967296) (hds:ds < 4294967296) :
  Calls Tryz.prog 97 #[.int .u32 (sr:Int),.int .u32 (ds:Int),.slice A n c] W fun e w'=>e = .returned (pV (errU sr ds bs) bs)/\Below W.heap.size W w':=by
 by_cases h0:errU sr ds bs=0
 ·rw [pV_ok bs h0];exact parse_ok sr ds A n c bs B W hb hB hc hm hsr hds h0
 ·rw [pV_bad bs h0];exact parse_bad sr ds A n c bs B W hb hB hc hm hsr hds h0
end Ud
end Go.Proofs.YtcockldefmmhbaaGreatDoor
set_option linter.unusedVariables false
set_option maxRecDepth 100000
set_option linter.unusedSimpArgs false
namespace Go.Proofs.YtcockldefmmhbaaGreatDoor
open Go.ChangeShapes Go.WideShapes Go.ChangeAt Go.RowKit Go.Mtl
namespace Wi
open IpM (word four hs tl tl_lt word_lt four_lt errC errN body)
open TcpM (errT)
open UdpM (errU)
open IcM (errI)
open WirM (errW spN dpN flN kdN)
open Ip (Hd)
abbrev pkt (a b c d e f h:Int):Array Value:=#[.int .u8 a,.int .u32 b,.int .u32 c,.int .u16 d,.int .u16 e,.int .u8 f,.int .u8 h]
def Pk (w:World) (g:Nat) (a b c d e f h:Int):Prop:=w.heap[g]? = some (.cells (pkt a b c d e f h) 95 (0,0))
section
variable {w w':World} {g:Nat} {a b c d e f h:Int}
theorem Pk.box (w:World) (a b c d e f h:Int):Pk (w.alloc (.cells (pkt a b c d e f h) 95)) w.heap.size a b c d e f h:=heap_alloc_new w _
theorem Pk.lt (H:Pk w g a b c d e f h):g < w.heap.size:=by
 rcases Nat.lt_or_ge g w.heap.size with hlt | hge
 ·exact hlt
 ·unfold Pk at H;rw [Array.getElem?_eq_none hge] at H;cases H
theorem Pk.keep (H:Pk w g a b c d e f h) (hk:w'.heap[g]? = w.heap[g]?):Pk w' g a b c d e f h:=hk.trans H
theorem Pk.next (H:Pk w g a b c d e f h) (hb:Below w.heap.size w w'):Pk w' g a b c d e f h:=H.keep (hb.block g H.lt)
theorem Pk.drewN (H:Pk w g a b c d e f h) (k:Nat):Pk (w.drewN k) g a b c d e f h:=H
theorem Pk.other (H:Pk w g a b c d e f h) (k i:Nat) (hk:g≠k) (v:Value):Pk (w.setCell ⟨k,i,none⟩ v) g a b c d e f h:=H.keep (Below.heap_setCell _ _ _ _ hk)
theorem Pk.cells (H:Pk w g a b c d e f h):w.cell? ⟨g,0,none⟩=some (.int .u8 a)/\w.cell? ⟨g,1,none⟩=some (.int .u32 b)/\w.cell? ⟨g,2,none⟩=some (.int .u32 c)/\w.cell? ⟨g,3,none⟩=some (.int .u16 d) ∧
  w.cell? ⟨g,4,none⟩=some (.int .u16 e)/\w.cell? ⟨g,5,none⟩=some (.int .u8 f)/\w.cell? ⟨g,6,none⟩=some (.int .u8 h):=by
 refine ⟨?_,?_,?_,?_,?_,?_,?_⟩ <;> exact (cell_of_row w g _ _ _ _ H).trans rfl
theorem Pk.frozen (H:Pk w g a b c d e f h):w.frozen? ⟨g,0,none⟩=false/\w.frozen? ⟨g,1,none⟩=false/\w.frozen? ⟨g,2,none⟩=false/\w.frozen? ⟨g,3,none⟩=false ∧
  w.frozen? ⟨g,4,none⟩=false/\w.frozen? ⟨g,5,none⟩=false/\w.frozen? ⟨g,6,none⟩=false:=by
 refine ⟨?_,?_,?_,?_,?_,?_,?_⟩ <;> exact frozen_of_row w g _ _ _ H
abbrev storeP (w:World) (g:Nat) (a b c d e f h:Int):World :=
 ((((((w.setCell ⟨g,0,none⟩ (.int .u8 a)).setCell ⟨g,1,none⟩ (.int .u32 b)).setCell ⟨g,2,none⟩ (.int .u32 c)).setCell ⟨g,3,none⟩ (.int .u16 d)).setCell ⟨g,4,none⟩ (.int .u16 e)).setCell ⟨g,5,none⟩ (.int .u8 f)).setCell ⟨g,6,none⟩ (.int .u8 h)
theorem Pk.store (H:Pk w g a b c d e f h) (a' b' c' d' e' f' h':Int):Pk (storeP w g a' b' c' d' e' f' h') g a' b' c' d' e' f' h':=by
 have h0:=heap_setCell_same w g 0 _ _ (.int .u8 a') H
 have h1:=heap_setCell_same _ g 1 _ _ (.int .u32 b') h0
 have h2:=heap_setCell_same _ g 2 _ _ (.int .u32 c') h1
 have h3:=heap_setCell_same _ g 3 _ _ (.int .u16 d') h2
 have h4:=heap_setCell_same _ g 4 _ _ (.int .u16 e') h3
 have h5:=heap_setCell_same _ g 5 _ _ (.int .u8 f') h4
 have h6:=heap_setCell_same _ g 6 _ _ (.int .u8 h') h5
 simpa [Pk] using h6
theorem below_storeP {B:Nat} {w0 w:World} {g:Nat} (hb:Below B w0 w) (hg:B<=g) (a b c d e f h:Int):Below B w0 (storeP w g a b c d e f h) :=
 ((((((hb.setCell (p:=⟨g,0,none⟩) hg _).setCell (p:=⟨g,1,none⟩) hg _).setCell (p:=⟨g,2,none⟩) hg _).setCell (p:=⟨g,3,none⟩) hg _).setCell (p:=⟨g,4,none⟩) hg _).setCell (p:=⟨g,5,none⟩) hg _).setCell (p:=⟨g,6,none⟩) hg _
end
abbrev zeroV:Value:=.agg (pkt 0 0 0 0 0 0 0)
abbrev badV (e:Nat):Value:=.tuple #[zeroV,.int .i64 (e:Int)]
abbrev packV (bs:List UInt8):Value:=.agg (pkt (byt bs 9:Int) (four bs 12:Int) (four bs 16:Int) (spN bs:Int) (dpN bs:Int) (flN bs:Int) (kdN bs:Int))
abbrev okV (bs:List UInt8):Value:=.tuple #[packV bs,.int .i64 0]
def wV (bs:List UInt8):Value:=if errW bs=0 then okV bs else badV (errW bs)
theorem wV_ok {bs:List UInt8} (h:errW bs=0):wV bs=okV bs:=by unfold wV;rw [if_pos h]
theorem wV_bad {bs:List UInt8} (h:errW bs≠0):wV bs=badV (errW bs):=by unfold wV;rw [if_neg h]
theorem wV_tcp {bs:List UInt8} (h:errN bs=0) (h9:byt bs 9=6) (h0:errT (four bs 12) (four bs 16) (body bs)=0) :
  wV bs = .tuple #[.agg (pkt 6 (four bs 12:Int) (four bs 16:Int) (word (body bs) 0:Int) (word (body bs) 2:Int) ((byt (body bs) 13:Int) % 64) 0),.int .i64 0]:=by
 rw [wV_ok ((WirM.errW_tcp h h9).trans h0)]
 unfold okV packV spN dpN flN kdN
 rw [if_neg (by omega),if_neg (by omega),if_pos h9,if_neg (by omega),h9]
 rfl
theorem wV_udp {bs:List UInt8} (h:errN bs=0) (h9:byt bs 9=17) (h0:errU (four bs 12) (four bs 16) (body bs)=0) :
  wV bs = .tuple #[.agg (pkt 17 (four bs 12:Int) (four bs 16:Int) (word (body bs) 0:Int) (word (body bs) 2:Int) 0 0),.int .i64 0]:=by
 rw [wV_ok ((WirM.errW_udp h h9).trans h0)]
 unfold okV packV spN dpN flN kdN
 rw [if_neg (by omega),if_neg (by omega),if_neg (by omega),if_neg (by omega),h9]
 rfl
theorem wV_icmp {bs:List UInt8} (h:errN bs=0) (h9:byt bs 9=1) (h0:errI (body bs)=0) :
  wV bs = .tuple #[.agg (pkt 1 (four bs 12:Int) (four bs 16:Int) (word (body bs) 4:Int) (word (body bs) 4:Int) 0 (byt (body bs) 0:Int)),.int .i64 0]:=by
 rw [wV_ok ((WirM.errW_icmp h h9).trans h0)]
 unfold okV packV spN dpN flN kdN
 rw [if_pos h9,if_pos h9,if_neg (by omega),if_pos h9,h9]
 rfl
theorem wV_err {bs:List UInt8} {e:Nat} (h:errW bs=e) (h0:e≠0):wV bs=badV e:=by subst h;exact wV_bad h0
theorem ret_v {a b:Value} (h:a=b):Ending.returned a = .returned b:=by rw [h]
theorem Bts.own {w w':World} {B n:Nat} {A:Option Addr} {bs:List UInt8} (h:Bts w w.heap.size A n bs) (hb:Below w.heap.size w w'):Bts w' w.heap.size A n bs:=h.below hb
theorem parse_ipbad (A:Option Addr) (n c:Nat) (bs:List UInt8) (B:Nat) (W:World) (hb:Bts W B A n bs) (hB:B<=W.heap.size) (hc:n<=c) (hm:c<=9223372036854775807) (he:errN bs≠0) :
  Calls Tryz.prog 63 #[.slice A n c] W fun e w'=>e = .returned (wV bs)/\Below W.heap.size W w':=by
 have HF:=Lib.hid (wV_err (WirM.errW_ip he) he)
 have HB:=Lib.hid (hb.alloc hB (.cells (pkt 0 0 0 0 0 0 0) 95))
 have HZ:=Lib.hid (Pk.box W 0 0 0 0 0 0 0)
 have HBel:=Lib.hid ((Below.refl _ W).alloc (Nat.le_refl _) (.cells (pkt 0 0 0 0 0 0 0) 95))
 have HP:=Lib.hid (fun W' (hb:Bts W' B A n bs) hB=>Ip.parse_wrong A n c bs B W' hb hB hc hm he)
 have d:((errN bs:Int) != 0)=true:=by simp;omega
 generalize errN bs=er at HF HP d
 clear hb he
 go_enter Tryz.func63,Tryz.ntmps63
 go_wp2_with fail
 go_at_call 95
 refine (HP.out _ HB.out (by simp;omega)).mono ?_
 rintro e w1 ⟨rfl,hb1⟩
 have hbx:=(Below.refl _ w1).alloc (Nat.le_refl _) (.cells (Ip.cells7 0 0 0 0 0 0 0) 156)
 have HX:=Lib.hid (Hd.box w1 0 0 0 0 0 0 0)
 have HZ1:=Lib.hid ((HZ.out.next hb1).next hbx)
 have hbel1:=HBel.out.trans (hb1.mono (by simp))
 have HBel1:=Lib.hid (hbel1.trans (hbx.mono hbel1.size))
 clear hb1 hbx hbel1
 obtain ⟨x0,x1,x2,x3,x4,x5,x6⟩:=HX.out.cells
 obtain ⟨g0,g1,g2,g3,g4,g5,g6⟩:=HX.out.frozen
 obtain ⟨z0,z1,z2,z3,z4,z5,z6⟩:=HZ1.out.cells
 obtain ⟨f0,f1,f2,f3,f4,f5,f6⟩:=HZ1.out.frozen
 go_wp2_with fail
 obtain ⟨r0,r1,r2,r3,r4,r5,r6⟩:=(HZ1.out.store 0 0 0 0 0 0 0).cells
 exact bodyPost_ret (v:=.tuple #[.agg (pkt 0 0 0 0 0 0 0),.int .i64 (er:Int)]) (by simp [results,Tryz.results63,go_sem,r0,r1,r2,r3,r4,r5,r6]) rfl ⟨ret_v HF.out.symm,below_storeP HBel1.out (Nat.le_refl _) _ _ _ _ _ _ _⟩
set_option maxHeartbeats 2000000 in
theorem parse_tcpOk (A:Option Addr) (n c:Nat) (bs:List UInt8) (B:Nat) (W:World) (hb:Bts W B A n bs) (hB:B<=W.heap.size) (hc:n<=c) (hm:c<=9223372036854775807) (he:Tc.Env W) (h0:errN bs=0) (h9:byt bs 9=6) (h1:errT (four bs 12) (four bs 16) (body bs)=0) :
  Calls Tryz.prog 63 #[.slice A n c] W fun e w'=>e = .returned (wV bs)/\Below W.heap.size W w':=by
 have HF:=Lib.hid (wV_tcp h0 h9 h1)
 obtain ⟨m,hm1⟩:∃ m,tl bs - hs bs=m:=⟨_,rfl⟩
 have hm2:m<=1000000:=by have:=tl_lt bs;omega
 have HB:=Lib.hid (hb.alloc hB (.cells (pkt 0 0 0 0 0 0 0) 95))
 have HZ:=Lib.hid (Pk.box W 0 0 0 0 0 0 0)
 have HBel:=Lib.hid ((Below.refl _ W).alloc (Nat.le_refl _) (.cells (pkt 0 0 0 0 0 0 0) 95))
 have HE:=Lib.hid (he.alloc (.cells (pkt 0 0 0 0 0 0 0) 95))
 have HP:=Lib.hid (fun W' (hb:Bts W' B A n bs) hB=>Ip.parse_rightN A n c bs B W' hb hB hc hm h0)
 unfold Ip.ParsedN at HP
 rw [hm1] at HP
 have hs12:=four_lt bs 12
 have hs16:=four_lt bs 16
 have P2:=Lib.hid (fun W' A1 c1 B2 (hb:Bts W' B2 A1 m (body bs)) hB hc hm he=>Tc.parse_any (four bs 12) (four bs 16) A1 m c1 (body bs) B2 W' hb hB hc hm hs12 hs16 he)
 rw [h1] at P2
 simp only [Tc.pV_ok (body bs) rfl] at P2
 clear hb he h0 hm1
 go_enter Tryz.func63,Tryz.ntmps63
 go_wp2_with fail
 go_at_call 95
 refine (HP.out _ HB.out (by simp;omega)).mono ?_
 rintro e w1 ⟨A1,c1,rfl,ht1,hcc,hb1,-⟩
 have hbx:=(Below.refl _ w1).alloc (Nat.le_refl _) (.cells (Ip.cells7 6 (four bs 12) (four bs 16) (hs bs) (tl bs) (byt bs 8) (word bs 4)) 156)
 have HX:=Lib.hid (Hd.box w1 0 0 0 0 0 0 0)
 have HY:=Lib.hid (Hd.box w1 6 (four bs 12) (four bs 16) (hs bs) (tl bs) (byt bs 8) (word bs 4))
 have HT:=Lib.hid (ht1.below hbx)
 have HE1:=Lib.hid ((HE.out.below hb1 (Nat.le_refl _)).below hbx (Nat.le_refl _))
 have HZ1:=Lib.hid ((HZ.out.next hb1).next hbx)
 have hbel1:=HBel.out.trans (hb1.mono (by simp))
 have HBel1:=Lib.hid (hbel1.trans (hbx.mono hbel1.size))
 clear hb1 hbx hbel1 ht1
 obtain ⟨x0,x1,x2,x3,x4,x5,x6⟩:=HX.out.cells
 obtain ⟨g0,g1,g2,g3,g4,g5,g6⟩:=HX.out.frozen
 obtain ⟨y0,y1,y2,y3,y4,y5,y6⟩:=HY.out.cells
 go_wp2_with fail
 go_at_call 96
 have HQ:=Lib.hid (Pk.box (w1.alloc (.cells (Ip.cells7 6 (four bs 12) (four bs 16) (hs bs) (tl bs) (byt bs 8) (word bs 4)) 156)) 6 (four bs 12) (four bs 16) 0 0 0 0)
 have hbq:=(Below.refl _ (w1.alloc (.cells (Ip.cells7 6 (four bs 12) (four bs 16) (hs bs) (tl bs) (byt bs 8) (word bs 4)) 156))).alloc (Nat.le_refl _) (.cells (pkt 6 (four bs 12) (four bs 16) 0 0 0 0) 95)
 have HZ2:=Lib.hid (HZ1.out.next hbq)
 have HBel2:=Lib.hid (HBel1.out.trans (hbq.mono HBel1.out.size))
 have hlt:=HZ1.out.lt
 rw [World.size_alloc] at HQ hlt
 have HT2:=Lib.hid (HT.out.below (hbq.mono (by simp)))
 have HE2:=Lib.hid (HE1.out.below hbq (Nat.le_refl _))
 clear HZ1 HT HE1 HBel1 hbq x0 x1 x2 x3 x4 x5 x6 g0 g1 g2 g3 g4 g5 g6 y0 y1 y2 y3 y4 y5 y6
 refine (P2.out _ _ _ _ HT2.out (by simp;omega) hcc.1 hcc.2 HE2.out).mono ?_
 rintro e w2 ⟨rfl,hb2⟩
 have HZ3:=Lib.hid (HZ2.out.next hb2)
 have HQ3:=Lib.hid (HQ.out.next hb2)
 have HBel3:=Lib.hid (HBel2.out.trans (hb2.mono HBel2.out.size))
 clear hb2 HZ2 HQ HBel2 HT2
 obtain ⟨q0,q1,q2,q3,q4,q5,q6⟩:=HQ3.out.cells
 obtain ⟨k0,k1,k2,k3,k4,k5,k6⟩:=HQ3.out.frozen
 obtain ⟨z0,z1,z2,z3,z4,z5,z6⟩:=HZ3.out.cells
 obtain ⟨f0,f1,f2,f3,f4,f5,f6⟩:=HZ3.out.frozen
 have hne:W.heap.size≠w1.heap.size+1:=by omega
 have hne':w1.heap.size+1≠W.heap.size:=by omega
 have hle:W.heap.size<=w1.heap.size+1:=by omega
 go_wp2_with fail
 obtain ⟨r0,r1,r2,r3,r4,r5,r6⟩:=((((HZ3.out.other (w1.heap.size+1) 3 hne (.int .u16 (word (body bs) 0:Int))).other (w1.heap.size+1) 4 hne (.int .u16 (word (body bs) 2:Int))).other (w1.heap.size+1) 5 hne (.int .u8 ((byt (body bs) 13:Int) % 64))).store 6 (four bs 12) (four bs 16) (word (body bs) 0) (word (body bs) 2) ((byt (body bs) 13:Int) % 64) 0).cells
 exact bodyPost_ret (v:=.tuple #[.agg (pkt 6 (four bs 12) (four bs 16) (word (body bs) 0) (word (body bs) 2) ((byt (body bs) 13:Int) % 64) 0),.int .i64 0]) (by simp [results,Tryz.results63,go_sem,r0,r1,r2,r3,r4,r5,r6]) rfl ⟨ret_v HF.out.symm,below_storeP (((HBel3.out.setCell (p:=⟨w1.heap.size+1,3,none⟩) hle (.int .u16 (word (body bs) 0:Int))).setCell (p:=⟨w1.heap.size+1,4,none⟩) hle (.int .u16 (word (body bs) 2:Int))).setCell (p:=⟨w1.heap.size+1,5,none⟩) hle (.int .u8 ((byt (body bs) 13:Int) % 64))) (Nat.le_refl _) _ _ _ _ _ _ _⟩
set_option maxHeartbeats 2000000 in
theorem parse_tcpBad (A:Option Addr) (n c:Nat) (bs:List UInt8) (B:Nat) (W:World) (hb:Bts W B A n bs) (hB:B<=W.heap.size) (hc:n<=c) (hm:c<=9223372036854775807) (he:Tc.Env W) (h0:errN bs=0) (h9:byt bs 9=6) (h1:errT (four bs 12) (four bs 16) (body bs)≠0) :
  Calls Tryz.prog 63 #[.slice A n c] W fun e w'=>e = .returned (wV bs)/\Below W.heap.size W w':=by
 have HF:=Lib.hid (wV_err (WirM.errW_tcp h0 h9) h1)
 obtain ⟨m,hm1⟩:∃ m,tl bs - hs bs=m:=⟨_,rfl⟩
 have hm2:m<=1000000:=by have:=tl_lt bs;omega
 have HB:=Lib.hid (hb.alloc hB (.cells (pkt 0 0 0 0 0 0 0) 95))
 have HZ:=Lib.hid (Pk.box W 0 0 0 0 0 0 0)
 have HBel:=Lib.hid ((Below.refl _ W).alloc (Nat.le_refl _) (.cells (pkt 0 0 0 0 0 0 0) 95))
 have HE:=Lib.hid (he.alloc (.cells (pkt 0 0 0 0 0 0 0) 95))
 have HP:=Lib.hid (fun W' (hb:Bts W' B A n bs) hB=>Ip.parse_rightN A n c bs B W' hb hB hc hm h0)
 unfold Ip.ParsedN at HP
 rw [hm1] at HP
 have hs12:=four_lt bs 12
 have hs16:=four_lt bs 16
 have P2:=Lib.hid (fun W' A1 c1 B2 (hb:Bts W' B2 A1 m (body bs)) hB hc hm he=>Tc.parse_any (four bs 12) (four bs 16) A1 m c1 (body bs) B2 W' hb hB hc hm hs12 hs16 he)
 simp only [Tc.pV_bad (body bs) h1] at P2
 have d:((errT (four bs 12) (four bs 16) (body bs):Int) != 0)=true:=by simp;omega
 generalize errT (four bs 12) (four bs 16) (body bs)=er at HF P2 d
 clear hb he h0 hm1
 go_enter Tryz.func63,Tryz.ntmps63
 go_wp2_with fail
 go_at_call 95
 refine (HP.out _ HB.out (by simp;omega)).mono ?_
 rintro e w1 ⟨A1,c1,rfl,ht1,hcc,hb1,-⟩
 have hbx:=(Below.refl _ w1).alloc (Nat.le_refl _) (.cells (Ip.cells7 6 (four bs 12) (four bs 16) (hs bs) (tl bs) (byt bs 8) (word bs 4)) 156)
 have HX:=Lib.hid (Hd.box w1 0 0 0 0 0 0 0)
 have HY:=Lib.hid (Hd.box w1 6 (four bs 12) (four bs 16) (hs bs) (tl bs) (byt bs 8) (word bs 4))
 have HT:=Lib.hid (ht1.below hbx)
 have HE1:=Lib.hid ((HE.out.below hb1 (Nat.le_refl _)).below hbx (Nat.le_refl _))
 have HZ1:=Lib.hid ((HZ.out.next hb1).next hbx)
 have hbel1:=HBel.out.trans (hb1.mono (by simp))
 have HBel1:=Lib.hid (hbel1.trans (hbx.mono hbel1.size))
 clear hb1 hbx hbel1 ht1
 obtain ⟨x0,x1,x2,x3,x4,x5,x6⟩:=HX.out.cells
 obtain ⟨g0,g1,g2,g3,g4,g5,g6⟩:=HX.out.frozen
 obtain ⟨y0,y1,y2,y3,y4,y5,y6⟩:=HY.out.cells
 go_wp2_with fail
 go_at_call 96
 have HQ:=Lib.hid (Pk.box (w1.alloc (.cells (Ip.cells7 6 (four bs 12) (four bs 16) (hs bs) (tl bs) (byt bs 8) (word bs 4)) 156)) 6 (four bs 12) (four bs 16) 0 0 0 0)
 have hbq:=(Below.refl _ (w1.alloc (.cells (Ip.cells7 6 (four bs 12) (four bs 16) (hs bs) (tl bs) (byt bs 8) (word bs 4)) 156))).alloc (Nat.le_refl _) (.cells (pkt 6 (four bs 12) (four bs 16) 0 0 0 0) 95)
 have HZ2:=Lib.hid (HZ1.out.next hbq)
 have HBel2:=Lib.hid (HBel1.out.trans (hbq.mono HBel1.out.size))
 have hlt:=HZ1.out.lt
 rw [World.size_alloc] at HQ hlt
 have HT2:=Lib.hid (HT.out.below (hbq.mono (by simp)))
 have HE2:=Lib.hid (HE1.out.below hbq (Nat.le_refl _))
 clear HZ1 HT HE1 HBel1 hbq x0 x1 x2 x3 x4 x5 x6 g0 g1 g2 g3 g4 g5 g6 y0 y1 y2 y3 y4 y5 y6
 refine (P2.out _ _ _ _ HT2.out (by simp;omega) hcc.1 hcc.2 HE2.out).mono ?_
 rintro e w2 ⟨rfl,hb2⟩
 have HZ3:=Lib.hid (HZ2.out.next hb2)
 have HQ3:=Lib.hid (HQ.out.next hb2)
 have HBel3:=Lib.hid (HBel2.out.trans (hb2.mono HBel2.out.size))
 clear hb2 HZ2 HQ HBel2 HT2
 obtain ⟨q0,q1,q2,q3,q4,q5,q6⟩:=HQ3.out.cells
 obtain ⟨k0,k1,k2,k3,k4,k5,k6⟩:=HQ3.out.frozen
 obtain ⟨z0,z1,z2,z3,z4,z5,z6⟩:=HZ3.out.cells
 obtain ⟨f0,f1,f2,f3,f4,f5,f6⟩:=HZ3.out.frozen
 have hne:W.heap.size≠w1.heap.size+1:=by omega
 have hne':w1.heap.size+1≠W.heap.size:=by omega
 have hle:W.heap.size<=w1.heap.size+1:=by omega
 go_wp2_with fail
 obtain ⟨r0,r1,r2,r3,r4,r5,r6⟩:=((((HZ3.out.other (w1.heap.size+1) 3 hne (.int .u16 0)).other (w1.heap.size+1) 4 hne (.int .u16 0)).other (w1.heap.size+1) 5 hne (.int .u8 0)).store 0 0 0 0 0 0 0).cells
 exact bodyPost_ret (v:=.tuple #[.agg (pkt 0 0 0 0 0 0 0),.int .i64 (er:Int)]) (by simp [results,Tryz.results63,go_sem,r0,r1,r2,r3,r4,r5,r6]) rfl ⟨ret_v HF.out.symm,below_storeP (((HBel3.out.setCell (p:=⟨w1.heap.size+1,3,none⟩) hle (.int .u16 0)).setCell (p:=⟨w1.heap.size+1,4,none⟩) hle (.int .u16 0)).setCell (p:=⟨w1.heap.size+1,5,none⟩) hle (.int .u8 0)) (Nat.le_refl _) _ _ _ _ _ _ _⟩
set_option maxHeartbeats 2000000 in
theorem parse_udpOk (A:Option Addr) (n c:Nat) (bs:List UInt8) (B:Nat) (W:World) (hb:Bts W B A n bs) (hB:B<=W.heap.size) (hc:n<=c) (hm:c<=9223372036854775807) (he:Tc.Env W) (h0:errN bs=0) (h9:byt bs 9=17) (h1:errU (four bs 12) (four bs 16) (body bs)=0) :
  Calls Tryz.prog 63 #[.slice A n c] W fun e w'=>e = .returned (wV bs)/\Below W.heap.size W w':=by
 have HF:=Lib.hid (wV_udp h0 h9 h1)
 obtain ⟨m,hm1⟩:∃ m,tl bs - hs bs=m:=⟨_,rfl⟩
 have hm2:m<=1000000:=by have:=tl_lt bs;omega
 have HB:=Lib.hid (hb.alloc hB (.cells (pkt 0 0 0 0 0 0 0) 95))
 have HZ:=Lib.hid (Pk.box W 0 0 0 0 0 0 0)
 have HBel:=Lib.hid ((Below.refl _ W).alloc (Nat.le_refl _) (.cells (pkt 0 0 0 0 0 0 0) 95))
 have HE:=Lib.hid (he.alloc (.cells (pkt 0 0 0 0 0 0 0) 95))
 have HP:=Lib.hid (fun W' (hb:Bts W' B A n bs) hB=>Ip.parse_rightN A n c bs B W' hb hB hc hm h0)
 unfold Ip.ParsedN at HP
 rw [hm1] at HP
 have hs12:=four_lt bs 12
 have hs16:=four_lt bs 16
 have P2:=Lib.hid (fun W' A1 c1 B2 (hb:Bts W' B2 A1 m (body bs)) hB hc hm=>Ud.parse_any (four bs 12) (four bs 16) A1 m c1 (body bs) B2 W' hb hB hc hm hs12 hs16)
 rw [h1] at P2
 simp only [Ud.pV_ok (body bs) rfl] at P2
 clear hb he h0 hm1
 go_enter Tryz.func63,Tryz.ntmps63
 go_wp2_with fail
 go_at_call 95
 refine (HP.out _ HB.out (by simp;omega)).mono ?_
 rintro e w1 ⟨A1,c1,rfl,ht1,hcc,hb1,-⟩
 have hbx:=(Below.refl _ w1).alloc (Nat.le_refl _) (.cells (Ip.cells7 17 (four bs 12) (four bs 16) (hs bs) (tl bs) (byt bs 8) (word bs 4)) 156)
 have HX:=Lib.hid (Hd.box w1 0 0 0 0 0 0 0)
 have HY:=Lib.hid (Hd.box w1 17 (four bs 12) (four bs 16) (hs bs) (tl bs) (byt bs 8) (word bs 4))
 have HT:=Lib.hid (ht1.below hbx)
 have HE1:=Lib.hid ((HE.out.below hb1 (Nat.le_refl _)).below hbx (Nat.le_refl _))
 have HZ1:=Lib.hid ((HZ.out.next hb1).next hbx)
 have hbel1:=HBel.out.trans (hb1.mono (by simp))
 have HBel1:=Lib.hid (hbel1.trans (hbx.mono hbel1.size))
 clear hb1 hbx hbel1 ht1
 obtain ⟨x0,x1,x2,x3,x4,x5,x6⟩:=HX.out.cells
 obtain ⟨g0,g1,g2,g3,g4,g5,g6⟩:=HX.out.frozen
 obtain ⟨y0,y1,y2,y3,y4,y5,y6⟩:=HY.out.cells
 go_wp2_with fail
 go_at_call 97
 have HQ:=Lib.hid (Pk.box (w1.alloc (.cells (Ip.cells7 17 (four bs 12) (four bs 16) (hs bs) (tl bs) (byt bs 8) (word bs 4)) 156)) 17 (four bs 12) (four bs 16) 0 0 0 0)
 have hbq:=(Below.refl _ (w1.alloc (.cells (Ip.cells7 17 (four bs 12) (four bs 16) (hs bs) (tl bs) (byt bs 8) (word bs 4)) 156))).alloc (Nat.le_refl _) (.cells (pkt 17 (four bs 12) (four bs 16) 0 0 0 0) 95)
 have HZ2:=Lib.hid (HZ1.out.next hbq)
 have HBel2:=Lib.hid (HBel1.out.trans (hbq.mono HBel1.out.size))
 have hlt:=HZ1.out.lt
 rw [World.size_alloc] at HQ hlt
 have HT2:=Lib.hid (HT.out.below (hbq.mono (by simp)))
 have HE2:=Lib.hid (HE1.out.below hbq (Nat.le_refl _))
 clear HZ1 HT HE1 HBel1 hbq x0 x1 x2 x3 x4 x5 x6 g0 g1 g2 g3 g4 g5 g6 y0 y1 y2 y3 y4 y5 y6
 refine (P2.out _ _ _ _ HT2.out (by simp;omega) hcc.1 hcc.2).mono ?_
 rintro e w2 ⟨rfl,hb2⟩
 have HZ3:=Lib.hid (HZ2.out.next hb2)
 have HQ3:=Lib.hid (HQ.out.next hb2)
 have HBel3:=Lib.hid (HBel2.out.trans (hb2.mono HBel2.out.size))
 clear hb2 HZ2 HQ HBel2 HT2
 obtain ⟨q0,q1,q2,q3,q4,q5,q6⟩:=HQ3.out.cells
 obtain ⟨k0,k1,k2,k3,k4,k5,k6⟩:=HQ3.out.frozen
 obtain ⟨z0,z1,z2,z3,z4,z5,z6⟩:=HZ3.out.cells
 obtain ⟨f0,f1,f2,f3,f4,f5,f6⟩:=HZ3.out.frozen
 have hne:W.heap.size≠w1.heap.size+1:=by omega
 have hne':w1.heap.size+1≠W.heap.size:=by omega
 have hle:W.heap.size<=w1.heap.size+1:=by omega
 go_wp2_with fail
 obtain ⟨r0,r1,r2,r3,r4,r5,r6⟩:=(((HZ3.out.other (w1.heap.size+1) 3 hne (.int .u16 (word (body bs) 0:Int))).other (w1.heap.size+1) 4 hne (.int .u16 (word (body bs) 2:Int))).store 17 (four bs 12) (four bs 16) (word (body bs) 0) (word (body bs) 2) 0 0).cells
 exact bodyPost_ret (v:=.tuple #[.agg (pkt 17 (four bs 12) (four bs 16) (word (body bs) 0) (word (body bs) 2) 0 0),.int .i64 0]) (by simp [results,Tryz.results63,go_sem,r0,r1,r2,r3,r4,r5,r6]) rfl ⟨ret_v HF.out.symm,below_storeP ((HBel3.out.setCell (p:=⟨w1.heap.size+1,3,none⟩) hle (.int .u16 (word (body bs) 0:Int))).setCell (p:=⟨w1.heap.size+1,4,none⟩) hle (.int .u16 (word (body bs) 2:Int))) (Nat.le_refl _) _ _ _ _ _ _ _⟩
set_option maxHeartbeats 2000000 in
theorem parse_udpBad (A:Option Addr) (n c:Nat) (bs:List UInt8) (B:Nat) (W:World) (hb:Bts W B A n bs) (hB:B<=W.heap.size) (hc:n<=c) (hm:c<=9223372036854775807) (he:Tc.Env W) (h0:errN bs=0) (h9:byt bs 9=17) (h1:errU (four bs 12) (four bs 16) (body bs)≠0) :
  Calls Tryz.prog 63 #[.slice A n c] W fun e w'=>e = .returned (wV bs)/\Below W.heap.size W w':=by
 have HF:=Lib.hid (wV_err (WirM.errW_udp h0 h9) h1)
 obtain ⟨m,hm1⟩:∃ m,tl bs - hs bs=m:=⟨_,rfl⟩
 have hm2:m<=1000000:=by have:=tl_lt bs;omega
 have HB:=Lib.hid (hb.alloc hB (.cells (pkt 0 0 0 0 0 0 0) 95))
 have HZ:=Lib.hid (Pk.box W 0 0 0 0 0 0 0)
 have HBel:=Lib.hid ((Below.refl _ W).alloc (Nat.le_refl _) (.cells (pkt 0 0 0 0 0 0 0) 95))
 have HE:=Lib.hid (he.alloc (.cells (pkt 0 0 0 0 0 0 0) 95))
 have HP:=Lib.hid (fun W' (hb:Bts W' B A n bs) hB=>Ip.parse_rightN A n c bs B W' hb hB hc hm h0)
 unfold Ip.ParsedN at HP
 rw [hm1] at HP
 have hs12:=four_lt bs 12
 have hs16:=four_lt bs 16
 have P2:=Lib.hid (fun W' A1 c1 B2 (hb:Bts W' B2 A1 m (body bs)) hB hc hm=>Ud.parse_any (four bs 12) (four bs 16) A1 m c1 (body bs) B2 W' hb hB hc hm hs12 hs16)
 simp only [Ud.pV_bad (body bs) h1] at P2
 have d:((errU (four bs 12) (four bs 16) (body bs):Int) != 0)=true:=by simp;omega
 generalize errU (four bs 12) (four bs 16) (body bs)=er at HF P2 d
 clear hb he h0 hm1
 go_enter Tryz.func63,Tryz.ntmps63
 go_wp2_with fail
 go_at_call 95
 refine (HP.out _ HB.out (by simp;omega)).mono ?_
 rintro e w1 ⟨A1,c1,rfl,ht1,hcc,hb1,-⟩
 have hbx:=(Below.refl _ w1).alloc (Nat.le_refl _) (.cells (Ip.cells7 17 (four bs 12) (four bs 16) (hs bs) (tl bs) (byt bs 8) (word bs 4)) 156)
 have HX:=Lib.hid (Hd.box w1 0 0 0 0 0 0 0)
 have HY:=Lib.hid (Hd.box w1 17 (four bs 12) (four bs 16) (hs bs) (tl bs) (byt bs 8) (word bs 4))
 have HT:=Lib.hid (ht1.below hbx)
 have HE1:=Lib.hid ((HE.out.below hb1 (Nat.le_refl _)).below hbx (Nat.le_refl _))
 have HZ1:=Lib.hid ((HZ.out.next hb1).next hbx)
 have hbel1:=HBel.out.trans (hb1.mono (by simp))
 have HBel1:=Lib.hid (hbel1.trans (hbx.mono hbel1.size))
 clear hb1 hbx hbel1 ht1
 obtain ⟨x0,x1,x2,x3,x4,x5,x6⟩:=HX.out.cells
 obtain ⟨g0,g1,g2,g3,g4,g5,g6⟩:=HX.out.frozen
 obtain ⟨y0,y1,y2,y3,y4,y5,y6⟩:=HY.out.cells
 go_wp2_with fail
 go_at_call 97
 have HQ:=Lib.hid (Pk.box (w1.alloc (.cells (Ip.cells7 17 (four bs 12) (four bs 16) (hs bs) (tl bs) (byt bs 8) (word bs 4)) 156)) 17 (four bs 12) (four bs 16) 0 0 0 0)
 have hbq:=(Below.refl _ (w1.alloc (.cells (Ip.cells7 17 (four bs 12) (four bs 16) (hs bs) (tl bs) (byt bs 8) (word bs 4)) 156))).alloc (Nat.le_refl _) (.cells (pkt 17 (four bs 12) (four bs 16) 0 0 0 0) 95)
 have HZ2:=Lib.hid (HZ1.out.next hbq)
 have HBel2:=Lib.hid (HBel1.out.trans (hbq.mono HBel1.out.size))
 have hlt:=HZ1.out.lt
 rw [World.size_alloc] at HQ hlt
 have HT2:=Lib.hid (HT.out.below (hbq.mono (by simp)))
 have HE2:=Lib.hid (HE1.out.below hbq (Nat.le_refl _))
 clear HZ1 HT HE1 HBel1 hbq x0 x1 x2 x3 x4 x5 x6 g0 g1 g2 g3 g4 g5 g6 y0 y1 y2 y3 y4 y5 y6
 refine (P2.out _ _ _ _ HT2.out (by simp;omega) hcc.1 hcc.2).mono ?_
 rintro e w2 ⟨rfl,hb2⟩
 have HZ3:=Lib.hid (HZ2.out.next hb2)
 have HQ3:=Lib.hid (HQ.out.next hb2)
 have HBel3:=Lib.hid (HBel2.out.trans (hb2.mono HBel2.out.size))
 clear hb2 HZ2 HQ HBel2 HT2
 obtain ⟨q0,q1,q2,q3,q4,q5,q6⟩:=HQ3.out.cells
 obtain ⟨k0,k1,k2,k3,k4,k5,k6⟩:=HQ3.out.frozen
 obtain ⟨z0,z1,z2,z3,z4,z5,z6⟩:=HZ3.out.cells
 obtain ⟨f0,f1,f2,f3,f4,f5,f6⟩:=HZ3.out.frozen
 have hne:W.heap.size≠w1.heap.size+1:=by omega
 have hne':w1.heap.size+1≠W.heap.size:=by omega
 have hle:W.heap.size<=w1.heap.size+1:=by omega
 go_wp2_with fail
 obtain ⟨r0,r1,r2,r3,r4,r5,r6⟩:=(((HZ3.out.other (w1.heap.size+1) 3 hne (.int .u16 0)).other (w1.heap.size+1) 4 hne (.int .u16 0)).store 0 0 0 0 0 0 0).cells
 exact bodyPost_ret (v:=.tuple #[.agg (pkt 0 0 0 0 0 0 0),.int .i64 (er:Int)]) (by simp [results,Tryz.results63,go_sem,r0,r1,r2,r3,r4,r5,r6]) rfl ⟨ret_v HF.out.symm,below_storeP ((HBel3.out.setCell (p:=⟨w1.heap.size+1,3,none⟩) hle (.int .u16 0)).setCell (p:=⟨w1.heap.size+1,4,none⟩) hle (.int .u16 0)) (Nat.le_refl _) _ _ _ _ _ _ _⟩
set_option maxHeartbeats 2000000 in
theorem parse_icmpOk (A:Option Addr) (n c:Nat) (bs:List UInt8) (B:Nat) (W:World) (hb:Bts W B A n bs) (hB:B<=W.heap.size) (hc:n<=c) (hm:c<=9223372036854775807) (he:Tc.Env W) (h0:errN bs=0) (h9:byt bs 9=1) (h1:errI (body bs)=0) :
  Calls Tryz.prog 63 #[.slice A n c] W fun e w'=>e = .returned (wV bs)/\Below W.heap.size W w':=by
 have HF:=Lib.hid (wV_icmp h0 h9 h1)
 obtain ⟨m,hm1⟩:∃ m,tl bs - hs bs=m:=⟨_,rfl⟩
 have hm2:m<=1000000:=by have:=tl_lt bs;omega
 have HB:=Lib.hid (hb.alloc hB (.cells (pkt 0 0 0 0 0 0 0) 95))
 have HZ:=Lib.hid (Pk.box W 0 0 0 0 0 0 0)
 have HBel:=Lib.hid ((Below.refl _ W).alloc (Nat.le_refl _) (.cells (pkt 0 0 0 0 0 0 0) 95))
 have HE:=Lib.hid (he.alloc (.cells (pkt 0 0 0 0 0 0 0) 95))
 have HP:=Lib.hid (fun W' (hb:Bts W' B A n bs) hB=>Ip.parse_rightN A n c bs B W' hb hB hc hm h0)
 unfold Ip.ParsedN at HP
 rw [hm1] at HP
 have hs12:=four_lt bs 12
 have hs16:=four_lt bs 16
 have P2:=Lib.hid (fun W' A1 c1 B2 (hb:Bts W' B2 A1 m (body bs)) hB hc hm=>Ic.parse_any A1 m c1 (body bs) B2 W' hb hB hc hm)
 rw [h1] at P2
 simp only [Ic.pV_ok (body bs) rfl] at P2
 clear hb he h0 hm1
 go_enter Tryz.func63,Tryz.ntmps63
 go_wp2_with fail
 go_at_call 95
 refine (HP.out _ HB.out (by simp;omega)).mono ?_
 rintro e w1 ⟨A1,c1,rfl,ht1,hcc,hb1,-⟩
 have hbx:=(Below.refl _ w1).alloc (Nat.le_refl _) (.cells (Ip.cells7 1 (four bs 12) (four bs 16) (hs bs) (tl bs) (byt bs 8) (word bs 4)) 156)
 have HX:=Lib.hid (Hd.box w1 0 0 0 0 0 0 0)
 have HY:=Lib.hid (Hd.box w1 1 (four bs 12) (four bs 16) (hs bs) (tl bs) (byt bs 8) (word bs 4))
 have HT:=Lib.hid (ht1.below hbx)
 have HE1:=Lib.hid ((HE.out.below hb1 (Nat.le_refl _)).below hbx (Nat.le_refl _))
 have HZ1:=Lib.hid ((HZ.out.next hb1).next hbx)
 have hbel1:=HBel.out.trans (hb1.mono (by simp))
 have HBel1:=Lib.hid (hbel1.trans (hbx.mono hbel1.size))
 clear hb1 hbx hbel1 ht1
 obtain ⟨x0,x1,x2,x3,x4,x5,x6⟩:=HX.out.cells
 obtain ⟨g0,g1,g2,g3,g4,g5,g6⟩:=HX.out.frozen
 obtain ⟨y0,y1,y2,y3,y4,y5,y6⟩:=HY.out.cells
 go_wp2_with fail
 go_at_call 98
 have HQ:=Lib.hid (Pk.box (w1.alloc (.cells (Ip.cells7 1 (four bs 12) (four bs 16) (hs bs) (tl bs) (byt bs 8) (word bs 4)) 156)) 1 (four bs 12) (four bs 16) 0 0 0 0)
 have hbq:=(Below.refl _ (w1.alloc (.cells (Ip.cells7 1 (four bs 12) (four bs 16) (hs bs) (tl bs) (byt bs 8) (word bs 4)) 156))).alloc (Nat.le_refl _) (.cells (pkt 1 (four bs 12) (four bs 16) 0 0 0 0) 95)
 have HZ2:=Lib.hid (HZ1.out.next hbq)
 have HBel2:=Lib.hid (HBel1.out.trans (hbq.mono HBel1.out.size))
 have hlt:=HZ1.out.lt
 rw [World.size_alloc] at HQ hlt
 have HT2:=Lib.hid (HT.out.below (hbq.mono (by simp)))
 have HE2:=Lib.hid (HE1.out.below hbq (Nat.le_refl _))
 clear HZ1 HT HE1 HBel1 hbq x0 x1 x2 x3 x4 x5 x6 g0 g1 g2 g3 g4 g5 g6 y0 y1 y2 y3 y4 y5 y6
 refine (P2.out _ _ _ _ HT2.out (by simp;omega) hcc.1 hcc.2).mono ?_
 rintro e w2 ⟨rfl,hb2⟩
 have HZ3:=Lib.hid (HZ2.out.next hb2)
 have HQ3:=Lib.hid (HQ.out.next hb2)
 have HBel3:=Lib.hid (HBel2.out.trans (hb2.mono HBel2.out.size))
 clear hb2 HZ2 HQ HBel2 HT2
 obtain ⟨q0,q1,q2,q3,q4,q5,q6⟩:=HQ3.out.cells
 obtain ⟨k0,k1,k2,k3,k4,k5,k6⟩:=HQ3.out.frozen
 obtain ⟨z0,z1,z2,z3,z4,z5,z6⟩:=HZ3.out.cells
 obtain ⟨f0,f1,f2,f3,f4,f5,f6⟩:=HZ3.out.frozen
 have hne:W.heap.size≠w1.heap.size+1:=by omega
 have hne':w1.heap.size+1≠W.heap.size:=by omega
 have hle:W.heap.size<=w1.heap.size+1:=by omega
 go_wp2_with fail
 obtain ⟨r0,r1,r2,r3,r4,r5,r6⟩:=((((HZ3.out.other (w1.heap.size+1) 6 hne (.int .u8 (byt (body bs) 0:Int))).other (w1.heap.size+1) 3 hne (.int .u16 (word (body bs) 4:Int))).other (w1.heap.size+1) 4 hne (.int .u16 (word (body bs) 4:Int))).store 1 (four bs 12) (four bs 16) (word (body bs) 4) (word (body bs) 4) 0 (byt (body bs) 0)).cells
 exact bodyPost_ret (v:=.tuple #[.agg (pkt 1 (four bs 12) (four bs 16) (word (body bs) 4) (word (body bs) 4) 0 (byt (body bs) 0)),.int .i64 0]) (by simp [results,Tryz.results63,go_sem,r0,r1,r2,r3,r4,r5,r6]) rfl ⟨ret_v HF.out.symm,below_storeP (((HBel3.out.setCell (p:=⟨w1.heap.size+1,6,none⟩) hle (.int .u8 (byt (body bs) 0:Int))).setCell (p:=⟨w1.heap.size+1,3,none⟩) hle (.int .u16 (word (body bs) 4:Int))).setCell (p:=⟨w1.heap.size+1,4,none⟩) hle (.int .u16 (word (body bs) 4:Int))) (Nat.le_refl _) _ _ _ _ _ _ _⟩
set_option maxHeartbeats 2000000 in
theorem parse_icmpBad (A:Option Addr) (n c:Nat) (bs:List UInt8) (B:Nat) (W:World) (hb:Bts W B A n bs) (hB:B<=W.heap.size) (hc:n<=c) (hm:c<=9223372036854775807) (he:Tc.Env W) (h0:errN bs=0) (h9:byt bs 9=1) (h1:errI (body bs)≠0) :
  Calls Tryz.prog 63 #[.slice A n c] W fun e w'=>e = .returned (wV bs)/\Below W.heap.size W w':=by
 have HF:=Lib.hid (wV_err (WirM.errW_icmp h0 h9) h1)
 obtain ⟨m,hm1⟩:∃ m,tl bs - hs bs=m:=⟨_,rfl⟩
 have hm2:m<=1000000:=by have:=tl_lt bs;omega
 have HB:=Lib.hid (hb.alloc hB (.cells (pkt 0 0 0 0 0 0 0) 95))
 have HZ:=Lib.hid (Pk.box W 0 0 0 0 0 0 0)
 have HBel:=Lib.hid ((Below.refl _ W).alloc (Nat.le_refl _) (.cells (pkt 0 0 0 0 0 0 0) 95))
 have HE:=Lib.hid (he.alloc (.cells (pkt 0 0 0 0 0 0 0) 95))
 have HP:=Lib.hid (fun W' (hb:Bts W' B A n bs) hB=>Ip.parse_rightN A n c bs B W' hb hB hc hm h0)
 unfold Ip.ParsedN at HP
 rw [hm1] at HP
 have hs12:=four_lt bs 12
 have hs16:=four_lt bs 16
 have P2:=Lib.hid (fun W' A1 c1 B2 (hb:Bts W' B2 A1 m (body bs)) hB hc hm=>Ic.parse_any A1 m c1 (body bs) B2 W' hb hB hc hm)
 simp only [Ic.pV_bad (body bs) h1] at P2
 have d:((errI (body bs):Int) != 0)=true:=by simp;omega
 generalize errI (body bs)=er at HF P2 d
 clear hb he h0 hm1
 go_enter Tryz.func63,Tryz.ntmps63
 go_wp2_with fail
 go_at_call 95
 refine (HP.out _ HB.out (by simp;omega)).mono ?_
 rintro e w1 ⟨A1,c1,rfl,ht1,hcc,hb1,-⟩
 have hbx:=(Below.refl _ w1).alloc (Nat.le_refl _) (.cells (Ip.cells7 1 (four bs 12) (four bs 16) (hs bs) (tl bs) (byt bs 8) (word bs 4)) 156)
 have HX:=Lib.hid (Hd.box w1 0 0 0 0 0 0 0)
 have HY:=Lib.hid (Hd.box w1 1 (four bs 12) (four bs 16) (hs bs) (tl bs) (byt bs 8) (word bs 4))
 have HT:=Lib.hid (ht1.below hbx)
 have HE1:=Lib.hid ((HE.out.below hb1 (Nat.le_refl _)).below hbx (Nat.le_refl _))
 have HZ1:=Lib.hid ((HZ.out.next hb1).next hbx)
 have hbel1:=HBel.out.trans (hb1.mono (by simp))
 have HBel1:=Lib.hid (hbel1.trans (hbx.mono hbel1.size))
 clear hb1 hbx hbel1 ht1
 obtain ⟨x0,x1,x2,x3,x4,x5,x6⟩:=HX.out.cells
 obtain ⟨g0,g1,g2,g3,g4,g5,g6⟩:=HX.out.frozen
 obtain ⟨y0,y1,y2,y3,y4,y5,y6⟩:=HY.out.cells
 go_wp2_with fail
 go_at_call 98
 have HQ:=Lib.hid (Pk.box (w1.alloc (.cells (Ip.cells7 1 (four bs 12) (four bs 16) (hs bs) (tl bs) (byt bs 8) (word bs 4)) 156)) 1 (four bs 12) (four bs 16) 0 0 0 0)
 have hbq:=(Below.refl _ (w1.alloc (.cells (Ip.cells7 1 (four bs 12) (four bs 16) (hs bs) (tl bs) (byt bs 8) (word bs 4)) 156))).alloc (Nat.le_refl _) (.cells (pkt 1 (four bs 12) (four bs 16) 0 0 0 0) 95)
 have HZ2:=Lib.hid (HZ1.out.next hbq)
 have HBel2:=Lib.hid (HBel1.out.trans (hbq.mono HBel1.out.size))
 have hlt:=HZ1.out.lt
 rw [World.size_alloc] at HQ hlt
 have HT2:=Lib.hid (HT.out.below (hbq.mono (by simp)))
 have HE2:=Lib.hid (HE1.out.below hbq (Nat.le_refl _))
 clear HZ1 HT HE1 HBel1 hbq x0 x1 x2 x3 x4 x5 x6 g0 g1 g2 g3 g4 g5 g6 y0 y1 y2 y3 y4 y5 y6
 refine (P2.out _ _ _ _ HT2.out (by simp;omega) hcc.1 hcc.2).mono ?_
 rintro e w2 ⟨rfl,hb2⟩
 have HZ3:=Lib.hid (HZ2.out.next hb2)
 have HQ3:=Lib.hid (HQ.out.next hb2)
 have HBel3:=Lib.hid (HBel2.out.trans (hb2.mono HBel2.out.size))
 clear hb2 HZ2 HQ HBel2 HT2
 obtain ⟨q0,q1,q2,q3,q4,q5,q6⟩:=HQ3.out.cells
 obtain ⟨k0,k1,k2,k3,k4,k5,k6⟩:=HQ3.out.frozen
 obtain ⟨z0,z1,z2,z3,z4,z5,z6⟩:=HZ3.out.cells
 obtain ⟨f0,f1,f2,f3,f4,f5,f6⟩:=HZ3.out.frozen
 have hne:W.heap.size≠w1.heap.size+1:=by omega
 have hne':w1.heap.size+1≠W.heap.size:=by omega
 have hle:W.heap.size<=w1.heap.size+1:=by omega
 go_wp2_with fail
 obtain ⟨r0,r1,r2,r3,r4,r5,r6⟩:=((((HZ3.out.other (w1.heap.size+1) 6 hne (.int .u8 0)).other (w1.heap.size+1) 3 hne (.int .u16 0)).other (w1.heap.size+1) 4 hne (.int .u16 0)).store 0 0 0 0 0 0 0).cells
 exact bodyPost_ret (v:=.tuple #[.agg (pkt 0 0 0 0 0 0 0),.int .i64 (er:Int)]) (by simp [results,Tryz.results63,go_sem,r0,r1,r2,r3,r4,r5,r6]) rfl ⟨ret_v HF.out.symm,below_storeP (((HBel3.out.setCell (p:=⟨w1.heap.size+1,6,none⟩) hle (.int .u8 0)).setCell (p:=⟨w1.heap.size+1,3,none⟩) hle (.int .u16 0)).setCell (p:=⟨w1.heap.size+1,4,none⟩) hle (.int .u16 0)) (Nat.le_refl _) _ _ _ _ _ _ _⟩
set_option maxHeartbeats 2000000 in
theorem parse_other (A:Option Addr) (n c:Nat) (bs:List UInt8) (B:Nat) (W:World) (hb:Bts W B A n bs) (hB:B<=W.heap.size) (hc:n<=c) (hm:c<=9223372036854775807) (he:Tc.Env W) (h0:errN bs=0) (h9:byt bs 9≠6) (h17:byt bs 9≠17) (h1:byt bs 9≠1) :
  Calls Tryz.prog 63 #[.slice A n c] W fun e w'=>e = .returned (wV bs)/\Below W.heap.size W w':=by
 have HF:=Lib.hid (wV_err (WirM.errW_other h0 h9 h17 h1) (by omega:9≠0))
 obtain ⟨m,hm1⟩:∃ m,tl bs - hs bs=m:=⟨_,rfl⟩
 have hm2:m<=1000000:=by have:=tl_lt bs;omega
 have HB:=Lib.hid (hb.alloc hB (.cells (pkt 0 0 0 0 0 0 0) 95))
 have HZ:=Lib.hid (Pk.box W 0 0 0 0 0 0 0)
 have HBel:=Lib.hid ((Below.refl _ W).alloc (Nat.le_refl _) (.cells (pkt 0 0 0 0 0 0 0) 95))
 have HE:=Lib.hid (he.alloc (.cells (pkt 0 0 0 0 0 0 0) 95))
 have HP:=Lib.hid (fun W' (hb:Bts W' B A n bs) hB=>Ip.parse_rightN A n c bs B W' hb hB hc hm h0)
 unfold Ip.ParsedN at HP
 rw [hm1] at HP
 have d6:((byt bs 9:Int) == 6)=false:=by simp;omega
 have d17:((byt bs 9:Int) == 17)=false:=by simp;omega
 have d1:((byt bs 9:Int) == 1)=false:=by simp;omega
 clear hb he h0 hm1
 go_enter Tryz.func63,Tryz.ntmps63
 go_wp2_with fail
 go_at_call 95
 refine (HP.out _ HB.out (by simp;omega)).mono ?_
 rintro e w1 ⟨A1,c1,rfl,ht1,hcc,hb1,-⟩
 have hbx:=(Below.refl _ w1).alloc (Nat.le_refl _) (.cells (Ip.cells7 (byt bs 9) (four bs 12) (four bs 16) (hs bs) (tl bs) (byt bs 8) (word bs 4)) 156)
 have HX:=Lib.hid (Hd.box w1 0 0 0 0 0 0 0)
 have HY:=Lib.hid (Hd.box w1 (byt bs 9) (four bs 12) (four bs 16) (hs bs) (tl bs) (byt bs 8) (word bs 4))
 have HT:=Lib.hid (ht1.below hbx)
 have HE1:=Lib.hid ((HE.out.below hb1 (Nat.le_refl _)).below hbx (Nat.le_refl _))
 have HZ1:=Lib.hid ((HZ.out.next hb1).next hbx)
 have hbel1:=HBel.out.trans (hb1.mono (by simp))
 have HBel1:=Lib.hid (hbel1.trans (hbx.mono hbel1.size))
 clear hb1 hbx hbel1 ht1
 obtain ⟨x0,x1,x2,x3,x4,x5,x6⟩:=HX.out.cells
 obtain ⟨g0,g1,g2,g3,g4,g5,g6⟩:=HX.out.frozen
 obtain ⟨y0,y1,y2,y3,y4,y5,y6⟩:=HY.out.cells
 have HQ:=Lib.hid (Pk.box (w1.alloc (.cells (Ip.cells7 (byt bs 9) (four bs 12) (four bs 16) (hs bs) (tl bs) (byt bs 8) (word bs 4)) 156)) (byt bs 9) (four bs 12) (four bs 16) 0 0 0 0)
 have hbq:=(Below.refl _ (w1.alloc (.cells (Ip.cells7 (byt bs 9) (four bs 12) (four bs 16) (hs bs) (tl bs) (byt bs 8) (word bs 4)) 156))).alloc (Nat.le_refl _) (.cells (pkt (byt bs 9) (four bs 12) (four bs 16) 0 0 0 0) 95)
 have HZ2:=Lib.hid (HZ1.out.next hbq)
 have HBel2:=Lib.hid (HBel1.out.trans (hbq.mono HBel1.out.size))
 have hlt:=HZ1.out.lt
 rw [World.size_alloc] at HQ hlt
 clear hbq hlt
 obtain ⟨z0,z1,z2,z3,z4,z5,z6⟩:=HZ2.out.cells
 obtain ⟨f0,f1,f2,f3,f4,f5,f6⟩:=HZ2.out.frozen
 obtain ⟨q0,q1,q2,q3,q4,q5,q6⟩:=HQ.out.cells
 obtain ⟨k0,k1,k2,k3,k4,k5,k6⟩:=HQ.out.frozen
 go_wp2_with fail
 obtain ⟨r0,r1,r2,r3,r4,r5,r6⟩:=(HZ2.out.store 0 0 0 0 0 0 0).cells
 exact bodyPost_ret (v:=.tuple #[.agg (pkt 0 0 0 0 0 0 0),.int .i64 9]) (by simp [results,Tryz.results63,go_sem,r0,r1,r2,r3,r4,r5,r6]) rfl ⟨ret_v HF.out.symm,below_storeP HBel2.out (Nat.le_refl _) _ _ _ _ _ _ _⟩
theorem parse_any (A:Option Addr) (n c:Nat) (bs:List UInt8) (B:Nat) (W:World) (hb:Bts W B A n bs) (hB:B<=W.heap.size) (hc:n<=c) (hm:c<=9223372036854775807) (he:Tc.Env W) :
  Calls Tryz.prog 63 #[.slice A n c] W fun e w'=>e = .returned (wV bs)/\Below W.heap.size W w':=by
 by_cases h0:errN bs=0
 ·by_cases h6:byt bs 9=6
  ·by_cases h1:errT (four bs 12) (four bs 16) (body bs)=0
   ·exact parse_tcpOk A n c bs B W hb hB hc hm he h0 h6 h1
   ·exact parse_tcpBad A n c bs B W hb hB hc hm he h0 h6 h1
  ·by_cases h17:byt bs 9=17
   ·by_cases h1:errU (four bs 12) (four bs 16) (body bs)=0
    ·exact parse_udpOk A n c bs B W hb hB hc hm he h0 h17 h1
    ·exact parse_udpBad A n c bs B W hb hB hc hm he h0 h17 h1
   ·by_cases h2:byt bs 9=1
    ·by_cases h1:errI (body bs)=0
     ·exact parse_icmpOk A n c bs B W hb hB hc hm he h0 h2 h1
     ·exact parse_icmpBad A n c bs B W hb hB hc hm he h0 h2 h1
    ·exact parse_other A n c bs B W hb hB hc hm he h0 h6 h17 h2
 ·exact parse_ipbad A n c bs B W hb hB hc hm h0
end Wi
end Go.Proofs.YtcockldefmmhbaaGreatDoor
