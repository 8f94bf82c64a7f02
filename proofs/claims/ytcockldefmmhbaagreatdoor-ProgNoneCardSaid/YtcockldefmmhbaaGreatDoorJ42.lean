/- Several texts of this proof in one file, each in its own namespace. -/
import Derived.Test.YtcockldefmmhbaaGreatDoorJ34
import Derived.Deep.RegionHeldLaw
import Derived.Shelf.Abstract
set_option linter.unusedVariables false
set_option linter.unusedSimpArgs false
set_option maxRecDepth 100000
namespace Go.Proofs.YtcockldefmmhbaaGreatDoor
open Go.ChangeShapes Go.WideShapes Go.ChangeAt Go.RowKit Go.Mtl Go.Lib Go.Shelf
namespace Ma
open RulM (R)
open MatM (K hitB fst idxI accB fst_hit fst_none)
def Ten (w:World) (b o:Nat) (r:R):Prop :=
 w.cell? ⟨b,o,none⟩=some (.bool r.acc)/\w.cell? ⟨b,o+1,none⟩=some (.int .u8 (r.pr:Int))/\w.cell? ⟨b,o+2,none⟩=some (.int .u32 (r.sa:Int))/\w.cell? ⟨b,o+3,none⟩=some (.int .i64 r.sb)/\w.cell? ⟨b,o+4,none⟩=some (.int .u32 (r.da:Int)) ∧
  w.cell? ⟨b,o+5,none⟩=some (.int .i64 r.db)/\w.cell? ⟨b,o+6,none⟩=some (.int .u16 (r.sl:Int))/\w.cell? ⟨b,o+7,none⟩=some (.int .u16 (r.sh:Int))/\w.cell? ⟨b,o+8,none⟩=some (.int .u16 (r.dl:Int))/\w.cell? ⟨b,o+9,none⟩=some (.int .u16 (r.dh:Int))
theorem Ten.below {w w':World} {b o:Nat} {r:R} (h:Ten w b o r) (hb:Below w.heap.size w w') (hlt:b < w.heap.size):Ten w' b o r:=by
 obtain ⟨h0,h1,h2,h3,h4,h5,h6,h7,h8,h9⟩:=h
 exact ⟨(hb.cell hlt).trans h0,(hb.cell hlt).trans h1,(hb.cell hlt).trans h2,(hb.cell hlt).trans h3,(hb.cell hlt).trans h4,(hb.cell hlt).trans h5,(hb.cell hlt).trans h6,(hb.cell hlt).trans h7,(hb.cell hlt).trans h8,(hb.cell hlt).trans h9⟩
theorem ten_at {w:World} {B:Nat} {v:Value} {rs:List R} (h:Rds w B v rs) {i:Nat} {r:R} (hk:rs[i]? = some r):∃ b off cap,v = .slice (some ⟨b,off,none⟩) rs.length cap/\b < B/\Ten w b (off+i * 10) r:=by
 obtain ⟨b,off,cap,h1,h2,h3⟩:=h.at_ hk
 refine ⟨b,off,cap,h1,h2,h3 0 _ rfl,?_,?_,?_,?_,?_,?_,?_,?_,?_⟩ <;> rw [Nat.add_assoc]
 ·exact h3 1 _ rfl
 ·exact h3 2 _ rfl
 ·exact h3 3 _ rfl
 ·exact h3 4 _ rfl
 ·exact h3 5 _ rfl
 ·exact h3 6 _ rfl
 ·exact h3 7 _ rfl
 ·exact h3 8 _ rfl
 ·exact h3 9 _ rfl
theorem pred_any (r:R) (k:K) (ho:r.Ok) (hk:k.Ok) (B:Nat) (W:World) (hB:Blk W B (pK k) 95) :
  Calls Tryz.prog 250 #[.agg #[.bool r.acc,.int .u8 (r.pr:Int),.int .u32 (r.sa:Int),.int .i64 r.sb,.int .u32 (r.da:Int),.int .i64 r.db,.int .u16 (r.sl:Int),.int .u16 (r.sh:Int),.int .u16 (r.dl:Int),.int .u16 (r.dh:Int)],.pointer (some ⟨B,0,none⟩)] W
   fun e w'=>e = .returned (.bool (hitB r k))/\Below W.heap.size W w':=by
 have HM:=Lib.hid (fun W=>matches_any r k ho hk W)
 have HR:=Lib.hid (RAt.box W r)
 obtain ⟨y0,y1,y2,y3,y4,y5,y6⟩:(W.alloc (.cells (rK r) 80)).cell? ⟨B,0,none⟩=some (.int .u8 (k.pr:Int))/\(W.alloc (.cells (rK r) 80)).cell? ⟨B,1,none⟩=some (.int .u32 (k.sr:Int))/\(W.alloc (.cells (rK r) 80)).cell? ⟨B,2,none⟩=some (.int .u32 (k.ds:Int))/\(W.alloc (.cells (rK r) 80)).cell? ⟨B,3,none⟩=some (.int .u16 (k.sp:Int)) ∧
  (W.alloc (.cells (rK r) 80)).cell? ⟨B,4,none⟩=some (.int .u16 (k.dp:Int))/\(W.alloc (.cells (rK r) 80)).cell? ⟨B,5,none⟩=some (.int .u8 (k.fl:Int))/\(W.alloc (.cells (rK r) 80)).cell? ⟨B,6,none⟩=some (.int .u8 (k.kd:Int)):=KAt.cells (w:=W) ⟨hB.alloc _,below_box _ _⟩
 obtain ⟨x0,x1,x2,x3,x4,x5,x6,x7,x8,x9⟩:=HR.out.cells
 clear ho hk hB
 go_enter Tryz.func250,Tryz.ntmps250
 go_wp2_with fail
 go_at_call 251
 refine (HM.out _).mono ?_
 rintro e w1 ⟨rfl,hb⟩
 have HB:=Lib.hid (HR.out.next hb)
 clear hb x0 x1 x2 x3 x4 x5 x6 x7 x8 x9 y0 y1 y2 y3 y4 y5 y6
 go_wp2_with fail
 go_ret
 exact ⟨rfl,HB.out.bel⟩
set_option maxHeartbeats 2000000 in
theorem index_any (A:Option Addr) (n c:Nat) (rs:List R) (k:K) (hk:k.Ok) (B:Nat) (w:World) (hn:rs.length=n) (hr:Rds w w.heap.size (.slice A n c) rs) (ho:∀ r ∈ rs,r.Ok) (hB:Blk w B (pK k) 95) (hm:n<=maxLen) :
  Calls Tryz.prog 249 #[.slice A n c,.func (.func 250) #[] #[.pointer (some ⟨B,0,none⟩)]] w
   fun e w'=>e = .returned (.int .i64 (idxI (fst k rs)))/\Below w.heap.size w w':=by
 have eg:∀ args w,(callFunc 250 args).run Tryz.prog w = .ok (.enter 250 args) w:=enters_of Tryz.func250 (by kernel_rfl) rfl
 have HO:=Lib.hid ho
 have HRS:=Lib.hid hr
 have HN:=Lib.hid hn
 have HB:=Lib.hid hB
 have HKO:=Lib.hid hk
 unfold maxLen at hm
 clear ho hr hn hB hk
 go_enter Tryz.func249,Tryz.ntmps249
 go_wp2_with fail
 go_loopw [5,8] (fun _ i wr=>∃ j:Nat,j<=n/\i = .int .i64 (j:Int)/\Hid (Below w.heap.size w wr)/\Hid (∀ (i:Nat) q,i < j->rs[i]? = some q->hitB q k=false)) (fun _ i _=>n - (RowKit.intOf i).toNat)
 case atStart=>exact ⟨0,by omega,rfl,Below.refl _ _,(show Hid _ from fun i q hi=>absurd hi (Nat.not_lt_zero _))⟩
 case round =>
  obtain ⟨j,hj,rfl,hbw,hbe⟩:=hrel
  by_cases hlt:j < n
  ·obtain ⟨r,hrj⟩:∃ x,rs[j]? = some x:=⟨_,List.getElem?_eq_getElem (by have:=HN.out;omega)⟩
   obtain ⟨b,off,cap,hv,hg,ht⟩:=ten_at HRS.out hrj
   injection hv with hv1 hv2 hv3
   subst hv1 hv3
   have HP:=Lib.hid (pred_any r k (HO.out r (List.mem_of_getElem? hrj)) HKO.out B wr (HB.out.next hbw.out))
   obtain ⟨x0,x1,x2,x3,x4,x5,x6,x7,x8,x9⟩:=ht.below hbw.out hg
   have HRJ:=Lib.hid hrj
   clear hrj ht hv2
   cases hh:hitB r k with
   | true =>
    rw [hh] at HP
    have HF:Hid (fst k rs=some j):=fst_hit HRJ.out hh hbe.out
    clear hh
    go_wp2_with fail
    refine HP.out.mono ?_
    rintro e w1 ⟨rfl,hb⟩
    have HB1:=Lib.hid (below_then hbw.out hb)
    clear hb x0 x1 x2 x3 x4 x5 x6 x7 x8 x9
    go_wp2_with fail
    go_ret
    exact ⟨by rw [HF.out];rfl,HB1.out⟩
   | false =>
    rw [hh] at HP
    have HF:Hid (∀ (i:Nat) q,i < j+1->rs[i]? = some q->hitB q k=false):=by
     show ∀ (i:Nat) q,i < j+1->rs[i]? = some q->hitB q k=false
     intro i q hi hq
     by_cases e:i=j
     ·subst e
      rw [HRJ.out] at hq
      injection hq with hq
      rw [← hq];exact hh
     ·exact hbe.out i q (by omega) hq
    clear hh
    go_wp2_with fail
    refine HP.out.mono ?_
    rintro e w1 ⟨rfl,hb⟩
    have HB1:=Lib.hid (below_then hbw.out hb)
    clear hb x0 x1 x2 x3 x4 x5 x6 x7 x8 x9
    go_wp2_with fail
    go_roundw
    case rel=>exact ⟨j+1,by omega,by go_num,HB1,HF⟩
    case measure=>simp [RowKit.intOf];omega
  ·obtain rfl:j=n:=by omega
   have HF:Hid (fst k rs=none):=fst_none fun i q hq=>hbe.out i q (by have:=(List.getElem?_eq_some_iff.1 hq).1;have:=HN.out;omega) hq
   go_wp2_with fail
   go_ret
   exact ⟨by rw [HF.out];rfl,hbw.out⟩
end Ma
end Go.Proofs.YtcockldefmmhbaaGreatDoor
set_option linter.unusedVariables false
set_option linter.unusedSimpArgs false
set_option maxRecDepth 100000
namespace Go.Proofs.YtcockldefmmhbaaGreatDoor
open Go.ChangeShapes Go.WideShapes Go.ChangeAt Go.RowKit Go.Mtl Go.Lib
namespace Ma
open RulM (R)
open MatM (K hitB fst idxI accB fst_hit fst_none)
end Ma
end Go.Proofs.YtcockldefmmhbaaGreatDoor
