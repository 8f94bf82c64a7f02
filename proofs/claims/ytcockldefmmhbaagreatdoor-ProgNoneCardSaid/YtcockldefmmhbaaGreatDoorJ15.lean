/- Several texts of this proof in one file, each in its own namespace. -/
import Derived.Test.YtcockldefmmhbaaGreatDoorRows
import Derived.Test.YtcockldefmmhbaaGreatDoorShelf
import Derived.Test.YtcockldefmmhbaaGreatDoorJ1
import Derived.Test.YtcockldefmmhbaaGreatDoorComO
import Derived.WalkKit
import Derived.ProofKit
import Derived.OpenShut
import Derived.BigQuiet
import Derived.Lib.Hide
import Derived.Lib.ItoaMem
import Derived.Deep.RegionWith
set_option linter.unusedVariables false
set_option maxRecDepth 100000
set_option linter.unusedSimpArgs false
namespace Go.Proofs.YtcockldefmmhbaaGreatDoor
open Go.ChangeShapes Go.WideShapes Go.ChangeAt Go.RowKit Go.Mtl Go.Shelf Go.Sort Go.Lib
namespace Ad
open AdrM (byteS byteS_some byteS_of_parse_ok byteS_of_parse_not byteS_le)
theorem gSyn:Tryz.prog.globalNamed "strconv.ErrSyntax" = some 8:=by kernel_rfl
theorem gRng:Tryz.prog.globalNamed "strconv.ErrRange" = some 9:=by kernel_rfl
theorem gTab:Tryz.prog.globalNamed "internal/strconv.uint64pow10" = some 10:=by kernel_rfl
structure Env (w:World):Prop where
 max:∃ m,w.cell? ⟨3,0,none⟩=some (.int .i64 m)
 syn:∃ tp p,w.var? Tryz.prog "strconv.ErrSyntax" = some #[.iface tp p]
 rng:∃ tp p,w.var? Tryz.prog "strconv.ErrRange" = some #[.iface tp p]
 tab:TabIs Tryz.prog w "internal/strconv.uint64pow10" .u64 pow10Tab
theorem var_lt {P:Program} {w:World} {n:String} {g:Nat} {cs:Array Value} (hg:P.globalNamed n=some g) (h:w.var? P n=some cs):g < w.heap.size:=by
 unfold World.var? at h
 simp only [hg,Option.bind_some] at h
 rcases Nat.lt_or_ge g w.heap.size with h' | h'
 ·exact h'
 ·rw [Array.getElem?_eq_none h'] at h;simp at h
theorem var_below {P:Program} {w w':World} {n:String} {g:Nat} {cs:Array Value} (hg:P.globalNamed n=some g) (h:w.var? P n=some cs) (hb:Below w.heap.size w w'):w'.var? P n=some cs:=by
 have hlt:=var_lt hg h
 unfold World.var? at *
 simp only [hg,Option.bind_some] at h ⊢
 rw [hb.block g hlt]
 exact h
theorem Env.below {w w':World} (h:Env w) (hb:Below w.heap.size w w'):Env w':=by
 obtain ⟨⟨m,h1⟩,⟨t2,p2,h2⟩,⟨t3,p3,h3⟩,h4⟩:=h
 have hlt:=World.block_lt_of_cell? _ _ h1
 exact ⟨⟨m,(hb.cell hlt).trans h1⟩,⟨t2,p2,var_below gSyn h2 hb⟩,⟨t3,p3,var_below gRng h3 hb⟩,var_below gTab h4 hb⟩
theorem Env.alloc {w:World} (h:Env w) (o:Obj):Env (w.alloc o):=h.below ((Below.refl _ _).alloc (Nat.le_refl _) o)
theorem Env.drewN {w:World} (h:Env w) (n:Nat):Env (w.drewN n):=⟨h.max,h.syn,h.rng,h.tab⟩
theorem Env.drew {w:World} (h:Env w):Env w.drew:=⟨h.max,h.syn,h.rng,h.tab⟩
theorem below_drewN (w:World) (n:Nat):Below w.heap.size w (w.drewN n):=⟨rfl,rfl,rfl,Nat.le_refl _,fun _ _=>rfl⟩
theorem below_grow (w:World) (k:Nat) (os:Array Obj):Below w.heap.size w (Sort.grow (w.drewN k) os):=by
 refine ⟨rfl,rfl,rfl,by simp [Sort.grow],fun i hi=>?_⟩
 show ((w.heap ++ os)[i]?)=w.heap[i]?
 rw [Array.getElem?_append_left hi]
theorem below_bytesWorld (w:World) (e:TypeId) (s:ByteArray):Below w.heap.size w (bytesWorld w e s):=Lib.bytesWorld_below w e s
theorem list_of (s:ByteArray):(⟨s.data.toList.toArray⟩:ByteArray)=s:=by cases s;simp
theorem ba_eq {s t:ByteArray} (h:s.data.toList=t.data.toList):s=t:=by rw [← list_of s,h,list_of]
set_option maxRecDepth 100000 in
set_option maxHeartbeats 3200000 in
theorem intFormat_any (u:Nat) (hu:u<=255) (w:World) (htab:TabIs Tryz.prog w "internal/strconv.uint64pow10" .u64 pow10Tab) :
  Calls Tryz.prog 294 #[.int .u64 (u:Int),.int .i64 10] w fun e w'=>e = .returned (.string ⟨(decDigits u).toArray⟩)/\Below w.heap.size w w':=by
 by_cases hs:u < 100
 ·go_enter Tryz.func294,Tryz.ntmps294
  go_wp2_with (go_at_call 311;refine (Tryz.internal_strconv_small u hs _).mono ?_;rintro e w' ⟨rfl,rfl⟩)
  go_ret
  exact ⟨rfl,Below.refl _ _⟩
 ·have hu1:1<=u:=by omega
  have hu64:u < 18446744073709551616:=by omega
  have hnd20:nDigits u<=20:=by have:=numDigits_eq u hu1 hu64;split at this <;> omega
  have hsl:∀ W,(Instr.sliceAt 361 (.pointer (some ⟨w.heap.size,0,none⟩)) none (some (.int .i64 (nDigits u:Int))) none).run Tryz.prog W = .ok (.slice (some ⟨w.heap.size,0,none⟩) (nDigits u) 24) W:=fun W=>by
   rw [run_sliceAt_array_h W 361 ⟨w.heap.size,0,none⟩ (by simp [Program.arrayLen,Program.elem,Tryz.underlying361]) .i64 (nDigits u:Int) (by omega) (by simp [Program.arrayLen,Tryz.underlying361];omega)]
   go_simp
  have hH0:=holds_zero0 w 361 (nDigits u) (by omega)
  have hfmt:=Tryz.internal_strconv_formatBase10 w.heap.size 0 24 u (Array.replicate (nDigits u) 0) (w.alloc (.cells zeros24 361)) hH0 (by rw [Array.size_replicate];exact lt_pow_nDigits u) hu64 (by rw [Array.size_replicate];omega)
  rw [Array.size_replicate] at hfmt
  have HH0:=Lib.hid hH0
  clear hH0
  go_enter Tryz.func294,Tryz.ntmps294
  go_wp2_with (go_at_call 312;refine (Tryz.internal_strconv_numDigits u hu1 hu64 _ (tabIs_alloc htab _)).mono ?_;rintro e w' ⟨rfl,rfl⟩)
  go_at_call 313
  refine hfmt.mono ?_
  rintro e w' ⟨rfl,k,v',dk,rfl,hF⟩
  have hcv:(convert 27 9 (.slice (some ⟨w.heap.size,0,none⟩) (nDigits u) 24)).run Tryz.prog ((putRow (fun (b:UInt8)=>Value.int .u8 (b.toNat:Int)) (w.alloc (.cells zeros24 361)) w.heap.size 0 dk).drewN k) = .ok (.string ⟨(decDigits u).toArray⟩) ((putRow (fun (b:UInt8)=>Value.int .u8 (b.toNat:Int)) (w.alloc (.cells zeros24 361)) w.heap.size 0 dk).drewN k):=by
   have h:=run_convert_bytes_back (P:=Tryz.prog) ((putRow (fun (b:UInt8)=>Value.int .u8 (b.toNat:Int)) (w.alloc (.cells zeros24 361)) w.heap.size 0 dk).drewN k) 27 9 5 ⟨w.heap.size,0,none⟩ 24 (decDigits u) Tryz.underlying27 Tryz.underlying5 Tryz.underlying9 (fun j hj=>by
    rw [row_is_numeral hF j hj,Lib.add_plain,World.cell?_drewN]
    exact cell?_putRow (fun (b:UInt8)=>Value.int .u8 (b.toNat:Int)) _ w.heap.size 0 _ dk HH0.out (by rw [hF.size,Array.size_replicate]) j (by rw [hF.size];rw [decDigits_length] at hj;exact hj))
   rw [decDigits_length] at h
   exact h
  obtain ⟨os,eo⟩:=fin_at w (.cells zeros24 361) dk k 0
  have hb:Below w.heap.size w ((putRow (fun (b:UInt8)=>Value.int .u8 (b.toNat:Int)) (w.alloc (.cells zeros24 361)) w.heap.size 0 dk).drewN k):=by rw [eo];exact Lib.below_grow w.heap.size w (Nat.le_refl _) k os
  have HB:=Lib.hid hb
  clear eo hb hfmt
  go_wp2
  go_ret
  exact ⟨rfl,HB.out⟩
theorem format_any (u:Nat) (hu:u<=255) (w:World) (he:Env w) :
  Calls Tryz.prog 266 #[.int .u64 (u:Int),.int .i64 10] w fun e w'=>e = .returned (.string ⟨(decDigits u).toArray⟩)/\Below w.heap.size w w':=by
 have HF:=Lib.hid (intFormat_any u hu w he.tab)
 clear he
 go_enter Tryz.func266,Tryz.ntmps266
 go_wp2_with (go_at_call 294;refine HF.out.mono ?_;rintro e w' ⟨rfl,hb⟩)
 go_ret
 exact ⟨rfl,hb⟩
def numRes (l:List UInt8):Value:=match byteS l with
 | some n=>.tuple #[.int .u8 (n:Int),.bool true]
 | none=>.tuple #[.int .u8 0,.bool false]
theorem numRes_some {l:List UInt8} {n:Nat} (h:byteS l=some n):numRes l = .tuple #[.int .u8 (n:Int),.bool true]:=by unfold numRes;rw [h]
theorem numRes_none {l:List UInt8} (h:byteS l=none):numRes l = .tuple #[.int .u8 0,.bool false]:=by unfold numRes;rw [h]
theorem parse_bad (s:ByteArray) (hs:s.size<=1000000) (w:World) (he:Env w) (h:∀ u,parseUintB 8 s.data.toList ≠ .ok u) :
  Calls Tryz.prog 265 #[.string s,.int .i64 10,.int .i64 8] w fun e w'=>∃ (u:Int) (p:Value),e = .returned (.tuple #[.int .u64 u,.iface 358 p])/\Below w.heap.size w w':=by
 obtain ⟨t1,p1,hv1⟩:=he.syn
 obtain ⟨t2,p2,hv2⟩:=he.rng
 rcases hp:parseUintB 8 s.data.toList with u | _ | _
 ·exact absurd hp (h u)
 ·exact (Any.strconv_ParseUint_10_at8_syntax_var Tryz.laysPu14 s (by omega) hp t1 p1 w hv1).mono fun e w' ⟨N,he,_,_,hb⟩=>⟨_,_,he,hb⟩
 ·exact (Any.strconv_ParseUint_10_at8_range_var Tryz.laysPu14 s (by omega) hp t2 p2 w hv2).mono fun e w' ⟨N,he,_,_,hb⟩=>⟨_,_,he,hb⟩
set_option maxHeartbeats 1000000 in
theorem number_any (s:ByteArray) (hs:s.size<=1000000) (w:World) (he:Env w) :
  Calls Tryz.prog 216 #[.string s] w fun e w'=>e = .returned (numRes s.data.toList)/\Below w.heap.size w w':=by
 by_cases hok:∃ u,parseUintB 8 s.data.toList = .ok u
 ·obtain ⟨u,hp⟩:=hok
  have hu:u<=255:=by have:=parseUintB_le hp;omega
  have HB:=Lib.hid (byteS_of_parse_ok hp)
  have HP:=Lib.hid (Tryz.strconv_ParseUint_10_at8_ok s (by omega) u hp w)
  have HF:=Lib.hid (fun W (hb:Below w.heap.size w W)=>format_any u hu W (he.below hb))
  clear hp he
  go_enter Tryz.func216,Tryz.ntmps216
  go_wp2_with fail
  go_at_call 265
  refine HP.out.mono ?_
  rintro e w1 ⟨rfl,hw1⟩
  have hb1:Below w.heap.size w w1:=by
   rcases hw1 with rfl | rfl
   ·exact Below.refl _ _
   ·exact below_bytesWorld _ _ _
  clear hw1
  go_wp2_with fail
  go_at_call 266
  refine (HF.out _ hb1).mono ?_
  rintro e w2 ⟨rfl,hb2⟩
  have hb:Below w.heap.size w w2:=hb1.trans (hb2.mono hb1.size)
  have HBE:=Lib.hid hb
  clear hb hb1 hb2
  go_wp2_with fail
  ·have h1:(!decDigits u == s.toList)=true:=by assumption
   rw [ByteArray.toList_eq] at h1
   have h2:byteS s.data.toList=none:=by rw [HB.out,if_neg (by simpa using h1)]
   go_ret2
   exact ⟨by rw [numRes_none h2];rfl,HBE.out⟩
  ·have h1:(!decDigits u == s.toList)=false:=by assumption
   rw [ByteArray.toList_eq] at h1
   have h2:byteS s.data.toList=some u:=by rw [HB.out,if_pos (by simpa using h1)]
   go_ret2
   exact ⟨by rw [numRes_some h2];rfl,HBE.out⟩
 ·have hno:∀ u,parseUintB 8 s.data.toList ≠ .ok u:=fun u h=>hok ⟨u,h⟩
  have HB:=Lib.hid (byteS_of_parse_not hno)
  have HP:=Lib.hid (parse_bad s hs w he hno)
  clear hok hno he
  go_enter Tryz.func216,Tryz.ntmps216
  go_wp2_with fail
  go_at_call 265
  refine HP.out.mono ?_
  rintro e w1 ⟨u,p,rfl,hb1⟩
  go_wp2_with fail
  go_ret2
  exact ⟨by rw [numRes_none HB.out];rfl,hb1⟩
end Ad
end Go.Proofs.YtcockldefmmhbaaGreatDoor
set_option linter.unusedVariables false
set_option maxRecDepth 100000
set_option linter.unusedSimpArgs false
namespace Go.Proofs.YtcockldefmmhbaaGreatDoor
open Go.ChangeShapes Go.WideShapes Go.ChangeAt Go.RowKit Go.Mtl Go.Shelf Go.Sort Go.Lib
namespace Ad
open AdrM (byteS byteS_some byteS_le pieces parseS fold printS b3 b2 b1 b0)
def parseRes (l:List UInt8):Value:=match parseS l with
 | some a=>.tuple #[.int .u32 (a:Int),.int .i64 0]
 | none=>.tuple #[.int .u32 0,.int .i64 3]
theorem parseRes_some {l:List UInt8} {a:Nat} (h:parseS l=some a):parseRes l = .tuple #[.int .u32 (a:Int),.int .i64 0]:=by unfold parseRes;rw [h]
theorem parseRes_none {l:List UInt8} (h:parseS l=none):parseRes l = .tuple #[.int .u32 0,.int .i64 3]:=by unfold parseRes;rw [h]
theorem size_len (s:ByteArray):s.size=s.data.toList.length:=Array.length_toList.symm
abbrev dot:ByteArray:=⟨#[46]⟩
theorem row_of (w:World) (o:Obj):(w.alloc o).heap[w.heap.size]? = some o:=heap_alloc_new w o
theorem ret_u32 {a b:Int} (h:a=b):Value.int .u32 a=Value.int .u32 b:=by rw [h]
theorem or_is (x n:Nat) (hx:x < 16777216) (hn:n<=255):bits .or .u32 ((x:Int) * 256) (n:Int)=((x * 256+n:Nat):Int):=by
 rw [show (x:Int) * 256=((x * 256:Nat):Int) by omega,u32_or_nat _ _ (by omega) (by omega)]
 have:=AdrM.or_low x n hx (by omega)
 rw [Nat.mod_eq_of_lt (by omega)] at this
 rw [this]
set_option maxHeartbeats 2000000 in
theorem parse_any (s:ByteArray) (hs:s.size<=1000000) (w:World) (he:Env w) :
  Calls Tryz.prog 215 #[.string s] w fun e w'=>e = .returned (parseRes s.data.toList)/\Below w.heap.size w w':=by
 obtain ⟨m,hm⟩:=he.max
 have HS:=Lib.hid (Tryz.strings_Split s dot m w (by omega) hm (by decide))
 have HL:=Lib.hid (AdrM.countB_pieces s dot 46 rfl)
 have HP:=Lib.hid (AdrM.splitB_pieces s dot 46 rfl)
 have HF:=Lib.hid (AdrM.parseS_fold s.data.toList)
 clear hm
 by_cases h4:(pieces 46 s.data.toList).length=4
 ·have HN:Hid (countB s dot+1=4):=by show _=4;rw [HL.out,h4]
  have HFF:Hid (parseS s.data.toList=fold 0 (pieces 46 s.data.toList)):=by show _=_;rw [HF.out,if_pos h4]
  have H4:=Lib.hid h4
  clear h4
  rw [HN.out] at HS
  generalize hps:splitB dot 0 (countB s dot) s=ps at HS HP
  clear HL HF HN hps
  have HE:=Lib.hid (he.alloc (.cells (ps.map Value.string).toArray 9))
  have HSZ:Hid (∀ (k:Nat) (p:ByteArray),ps[k]? = some p->p.size<=1000000):=by
   intro k p hk
   have h1:=AdrM.pieces_len 46 s.data.toList p.data.toList (by rw [← HP.out];exact List.mem_map.2 ⟨p,List.mem_of_getElem? hk,rfl⟩)
   have e1:=size_len s
   have e2:=size_len p
   omega
  clear he
  go_enter Tryz.func215,Tryz.ntmps215
  go_wp2_with fail
  go_at_call 158
  refine HS.out.mono ?_
  rintro e w1 ⟨rfl,hw1⟩
  have hc:∀ (k:Nat) (p:ByteArray),ps[k]? = some p->w1.cell? ⟨w.heap.size,k,none⟩=some (.string p):=by
   intro k p hk
   rw [hw1,cell_of_row _ _ _ _ _ _ (row_of _ _)]
   simp [hk]
  have hb0:Below w.heap.size w w1:=by rw [hw1];exact (Below.refl _ _).alloc (Nat.le_refl _) _
  have hz:w.heap.size < w1.heap.size:=by rw [hw1];simp
  rw [← hw1] at HE
  have HC:=Lib.hid hc
  have HB0:=Lib.hid hb0
  clear hw1 hc hb0
  go_wp2_with fail
  go_loopw [5,17] (fun a i wr=>∃ (k x:Nat),k<=4/\i = .int .i64 (k:Int)/\a = .int .u32 (x:Int)/\x < 256 ^ k/\Hid (fold 0 (pieces 46 s.data.toList)=fold x ((pieces 46 s.data.toList).drop k))/\Below w1.heap.size w1 wr) (fun _ i _=>4 - (RowKit.intOf i).toNat)
  case atStart=>exact ⟨0,0,by omega,rfl,rfl,by simp,by show _=_;rw [List.drop_zero],Below.refl _ _⟩
  case round =>
   obtain ⟨k,x,hk,rfl,rfl,hx,hf,hb⟩:=hrel
   by_cases hlt:k < 4
   ·obtain ⟨p,hp⟩:∃ p,ps[k]? = some p:=by
     have:ps.length=4:=by
      have:=congrArg List.length HP.out
      rw [List.length_map,H4.out] at this
      exact this
     exact ⟨_,List.getElem?_eq_getElem (by omega)⟩
    have hcell:wr.cell? ⟨w.heap.size,k,none⟩=some (.string p):=(hb.cell hz).trans (HC.out k p hp)
    have hpp:(pieces 46 s.data.toList)[k]? = some p.data.toList:=by rw [← HP.out,List.getElem?_map,hp];rfl
    have HPP:=Lib.hid hpp
    have HNUM:=Lib.hid (number_any p (HSZ.out k p hp) wr (HE.out.below hb))
    clear hp hpp
    have hx24:x < 16777216:=Nat.lt_of_lt_of_le hx (Nat.le_trans (Nat.pow_le_pow_right (by omega) (show k<=3 by omega)) (by decide))
    cases hn:byteS p.data.toList with
    | none =>
     rw [numRes_none hn] at HNUM
     have HN2:=Lib.hid hn
     clear hn
     go_wp2_with fail
     go_at_call 216
     refine HNUM.out.mono ?_
     rintro e w2 ⟨rfl,hb2⟩
     go_wp2_with fail
     go_ret2
     refine ⟨?_,HB0.out.trans ((hb.trans (hb2.mono hb.size)).mono (by omega))⟩
     rw [parseRes_none (HFF.out.trans (hf.out.trans (AdrM.fold_stop HPP.out HN2.out)))]
     rfl
    | some n =>
     have hn8:=byteS_le hn
     rw [numRes_some hn] at HNUM
     have HN2:=Lib.hid hn
     clear hn
     go_wp2_with fail
     go_at_call 216
     refine HNUM.out.mono ?_
     rintro e w2 ⟨rfl,hb2⟩
     go_wp2_with fail
     go_roundw
     case rel =>
      refine ⟨k+1,x * 256+n,by omega,by go_num,ret_u32 (or_is x n hx24 hn8),?_,?_,hb.trans (hb2.mono hb.size)⟩
      ·rw [Nat.pow_succ];omega
      ·exact hf.out.trans (AdrM.fold_step HPP.out HN2.out)
     case measure=>simp [RowKit.intOf];omega
   ·obtain rfl:k=4:=by omega
    have hx32:x < 4294967296:=Nat.lt_of_lt_of_le hx (by decide)
    go_wp2_with fail
    go_ret2
    refine ⟨?_,HB0.out.trans (hb.mono (by omega))⟩
    rw [parseRes_some (HFF.out.trans (hf.out.trans (AdrM.fold_end (by rw [H4.out];exact Nat.le_refl _))))]
    rfl
 ·have HN:Hid (parseS s.data.toList=none):=by show _=_;rw [HF.out,if_neg h4]
  have hc:Hid (countB s dot+1≠4):=by show _≠_;rw [HL.out];exact h4
  have hcl:countB s dot<=1000000:=by
   have h1:=HL.out
   rw [AdrM.pieces_count] at h1
   have h2:=List.count_le_length (a:=(46:UInt8)) (l:=s.data.toList)
   have h3:=size_len s
   omega
  clear h4 HL HF HP he
  generalize countB s dot=cnt at HS hc hcl
  have hd:((cnt:Int)+1 != 4)=true:=by have:=hc.out;simp;omega
  go_enter Tryz.func215,Tryz.ntmps215
  go_wp2_with fail
  go_at_call 158
  refine HS.out.mono ?_
  rintro e w1 ⟨rfl,hw1⟩
  have hb0:Below w.heap.size w w1:=by rw [hw1];exact (Below.refl _ _).alloc (Nat.le_refl _) _
  have HB0:=Lib.hid hb0
  clear hw1 hb0
  go_wp2_with fail
  go_ret2
  exact ⟨by rw [parseRes_none HN.out];rfl,HB0.out⟩
def upto (a:Nat):Nat->List UInt8
 | 0=>[]
 | 1=>decDigits (b3 a)
 | 2=>decDigits (b3 a) ++ (46 :: decDigits (b2 a))
 | 3=>decDigits (b3 a) ++ (46 :: (decDigits (b2 a) ++ (46 :: decDigits (b1 a))))
 | _=>printS a
theorem upto_len (a k:Nat) (ha:a < 4294967296):(upto a k).length<=15:=by
 have h:=AdrM.print_len a ha
 unfold printS at h
 unfold upto
 simp at h
 split <;> (try simp) <;> try omega
 unfold printS;simp;omega
theorem u8_info:(Tryz.prog.info? 5).map (fun i=>(i.zero,i.size,i.bytes))=some (some (.int .u8 0),1,1):=by kernel_rfl
def Row (w:World) (l:List UInt8) (v:Value) (wr:World):Prop:=wr.ownsRow w.heap.size 5 1 v l.length (bvs l)/\Below w.heap.size w wr
theorem row_dot {w wr w2:World} {l:List UInt8} {v v2:Value} (h:Row w l v wr) (c:UInt8)
  (ho2:w2.ownsRow w.heap.size 5 1 v2 (l.length+1) (bvs l ++ [.int .u8 (c.toNat:Int)])) (hg:(wr.alloc (.cells #[.int .u8 (c.toNat:Int)] 5)).grownBy w2 v.ownBlock):Row w (l ++ [c]) v2 w2:=by
 refine ⟨?_,(h.2.alloc h.2.size _).grown hg (by simp;have:=h.2.size;omega) (fun b hb=>(h.1.lt b hb).1)⟩
 rw [← bvs_snoc,List.length_append]
 exact ho2
theorem appendUint_any {w wr:World} {l:List UInt8} {v:Value} (he:Env w) (h:Row w l v wr) (hl:l.length<=1000) (x:Int) (u:Nat) (hx:x=(u:Int)) (hu:u<=255) :
  Calls Tryz.prog 275 #[v,.int .u64 x,.int .i64 10] wr fun e w'=>∃ v',e = .returned v'/\Row w (l ++ decDigits u) v' w':=by
 subst hx
 have HC:=Lib.hid (Tryz.internal_strconv_AppendUint_10 w.heap.size l.length u (by omega) v (bvs l) wr h.1 h.2.size (by omega) (he.below h.2).tab)
 have HR:=Lib.hid h
 clear h he
 go_enter Tryz.func275,Tryz.ntmps275
 go_wp2_with fail
 go_at_call 296
 refine HC.out.mono ?_
 rintro e w2 ⟨v2,rfl,ho2,hb2,-⟩
 have HR2:Hid (Row w (l ++ decDigits u) v2 w2):=by
  refine ⟨?_,HR.out.2.trans hb2⟩
  rw [List.length_append]
  have:bvs (l ++ decDigits u)=bvs l ++ byteCells (decDigits u):=by simp [bvs,byteCells]
  rw [this]
  exact ho2
 clear ho2 hb2
 go_wp2_with fail
 go_ret
 exact ⟨_,rfl,HR2.out⟩
set_option maxRecDepth 100000 in
set_option maxHeartbeats 2000000 in
theorem print_any (a:Nat) (ha:a < 4294967296) (w:World) (he:Env w) :
  Calls Tryz.prog 243 #[.int .u32 (a:Int)] w fun e w'=>e = .returned (.string ⟨(printS a).toArray⟩)/\Below w.heap.size w w':=by
 obtain ⟨i0,hi0,hz0,hz1,hz2⟩:=info_parts u8_info
 have HE:=Lib.hid he
 clear he
 go_enter Tryz.func243,Tryz.ntmps243
 go_wp2_with fail
 go_loopw [3,6] (fun v i wr=>∃ (k:Nat),k<=4/\i = .int .i64 (k:Int)/\Hid (Row w (upto a k) v wr)) (fun _ i _=>4 - (RowKit.intOf i).toNat)
 case atStart=>exact ⟨0,by omega,rfl,World.ownsRow_nil _ _ _ _,Below.refl _ _⟩
 case round =>
  obtain ⟨k,hk,rfl,hown⟩:=hrel
  have HLE:Hid ((upto a k).length<=15):=upto_len a k ha
  by_cases hlt:k < 4
  ·obtain rfl | rfl | rfl | rfl:k=0\/k=1\/k=2\/k=3:=by omega
   ·go_wp2_with fail
    go_at_call 275
    refine (appendUint_any HE.out hown.out (by have:=HLE.out;omega) _ (b3 a) (by unfold b3;omega) (by unfold b3;omega)).mono ?_
    rintro e w3 ⟨v3,rfl,hr3⟩
    have HR3:=Lib.hid hr3
    clear hr3
    go_wp2_with fail
    go_roundw
    case rel=>exact ⟨1,by omega,rfl,HR3.out⟩
    case measure=>simp [RowKit.intOf]
   ·go_wp2_with (at_builtin;(refine wpList_append_byte _ rfl (.tmp 11) (.tmp 12) _ rfl w.heap.size 5 i0 Tryz.underlying27 hi0 hz0 hz1 hz2 _ _ _ _ rfl hown.out.1 rfl (by have:=HLE.out;omega) hown.out.2.size ?_;intro o2 w2 ho2 hg2;have HO2:=Lib.hid (row_dot hown.out 46 ho2 hg2);clear ho2 hg2))
    go_at_call 275
    refine (appendUint_any HE.out HO2.out (by have:=HLE.out;simp;omega) _ (b2 a) (by unfold b2;omega) (by unfold b2;omega)).mono ?_
    rintro e w3 ⟨v3,rfl,hr3⟩
    have HR3:Hid (Row w (upto a 2) v3 w3):=by show Row _ _ _ _;simpa [upto] using hr3
    clear hr3
    go_wp2_with fail
    go_roundw
    case rel=>exact ⟨2,by omega,rfl,HR3.out⟩
    case measure=>simp [RowKit.intOf]
   ·go_wp2_with (at_builtin;(refine wpList_append_byte _ rfl (.tmp 11) (.tmp 12) _ rfl w.heap.size 5 i0 Tryz.underlying27 hi0 hz0 hz1 hz2 _ _ _ _ rfl hown.out.1 rfl (by have:=HLE.out;omega) hown.out.2.size ?_;intro o2 w2 ho2 hg2;have HO2:=Lib.hid (row_dot hown.out 46 ho2 hg2);clear ho2 hg2))
    go_at_call 275
    refine (appendUint_any HE.out HO2.out (by have:=HLE.out;simp;omega) _ (b1 a) (by unfold b1;omega) (by unfold b1;omega)).mono ?_
    rintro e w3 ⟨v3,rfl,hr3⟩
    have HR3:Hid (Row w (upto a 3) v3 w3):=by show Row _ _ _ _;simpa [upto] using hr3
    clear hr3
    go_wp2_with fail
    go_roundw
    case rel=>exact ⟨3,by omega,rfl,HR3.out⟩
    case measure=>simp [RowKit.intOf]
   ·go_wp2_with (at_builtin;(refine wpList_append_byte _ rfl (.tmp 11) (.tmp 12) _ rfl w.heap.size 5 i0 Tryz.underlying27 hi0 hz0 hz1 hz2 _ _ _ _ rfl hown.out.1 rfl (by have:=HLE.out;omega) hown.out.2.size ?_;intro o2 w2 ho2 hg2;have HO2:=Lib.hid (row_dot hown.out 46 ho2 hg2);clear ho2 hg2))
    go_at_call 275
    refine (appendUint_any HE.out HO2.out (by have:=HLE.out;simp;omega) _ (b0 a) (by unfold b0;omega) (by unfold b0;omega)).mono ?_
    rintro e w3 ⟨v3,rfl,hr3⟩
    have HR3:Hid (Row w (upto a 4) v3 w3):=by show Row _ _ _ _;simpa [upto,printS] using hr3
    clear hr3
    go_wp2_with fail
    go_roundw
    case rel=>exact ⟨4,by omega,rfl,HR3.out⟩
    case measure=>simp [RowKit.intOf]
  ·obtain rfl:k=4:=by omega
   have hne:0 < (upto a 4).length:=by
    simp [upto,printS];omega
   obtain ⟨g,cap,rfl,_,_⟩:=hown.out.1.form hne
   have ht:=run_text (P:=Tryz.prog) 27 9 5 Tryz.underlying27 Tryz.underlying5 Tryz.underlying9 (c:=cap) (bts_of_own hown.out.1 rfl)
   clear hne
   go_wp2_with fail
   go_ret
   exact ⟨rfl,hown.out.2⟩
end Ad
end Go.Proofs.YtcockldefmmhbaaGreatDoor
