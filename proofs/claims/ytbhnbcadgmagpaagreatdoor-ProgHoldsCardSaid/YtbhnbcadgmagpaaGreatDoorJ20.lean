import Derived.Test.YtbhnbcadgmagpaaGreatDoorBig
import Derived.Test.YtbhnbcadgmagpaaGreatDoorJ1
import Derived.Test.YtbhnbcadgmagpaaGreatDoorJ19
import Derived.Test.YtbhnbcadgmagpaaGreatDoorJ5
import Derived.Test.YtbhnbcadgmagpaaGreatDoorJ18
import Derived.Test.YtbhnbcadgmagpaaGreatDoorJ3
set_option linter.unusedVariables false
set_option linter.unusedSimpArgs false
set_option maxRecDepth 100000
namespace Go.Proofs.YtbhnbcadgmagpaaGreatDoor
open Go.Lib (hid)
open Go.ChangeShapes Go.WideShapes Go.ChangeAt Go.RowKit Go.aN
namespace Ip
open ov (word four hs tl aU bS fD eF body)
open nK (aat rJ jf)
theorem ax{k:IntKind}{a b:Int}(h:a=b):Ending.returned (.int k a) = .returned (.int k b):=by rw[h]
theorem mM(bs:List UInt8)(a:Nat)(h:a+2<=bs.length):aat bs a 2=(word bs a:Nat):=by
 rw[jf _ _ 1 zo,jf _ _ 0 zo,rJ];unfold word;simp
theorem Bw(bs:List UInt8)(a:Nat)(h:a+4<=bs.length):aat bs a 4=(four bs a:Nat):=by
 rw[jf _ _ 3 zo,jf _ _ 2 zo,mM _ _ zo];unfold four word;simp[Nat.add_assoc];omega
theorem cW(A:Option Addr)(n c:Nat)(bs:List UInt8)(B:Nat)(a s:Nat)(v:Nat)(W:World)(hb:bI W B A n bs)(hc:n<=c)(hm:c<=9223372036854775807)(h1:1<=s)(h2:s<=8)(h3:a+s<=n)(hv:aat bs a s=(v:Int)) :
  Calls Tryz.prog 186 #[.slice A n c,.int .i64 (a:Int),.int .i64 (s:Int)] W λe w'=>e = .returned (.int .u64 (v:Int))/\W=w':=by
 obtain⟨b,off,rfl,hlt,hcell⟩:=hb.at_ zo
 have C:=nK.EZ b off n c bs a s hb.len hc hm h1 h2 h3 W hcell
 rw[hv]at C
 have HC:=hid C
 clear C hcell hv hb
 go_in
 go_wp2_with (go_at_call 190;refine HC.out.mono ?_;rintro e w' ⟨rfl,rfl⟩)
 go_ret
 exact⟨rfl,rfl⟩
abbrev xI(bs:List UInt8):Value:=.agg #[.int .u8 (aJ bs 9:Int),.int .u32 (four bs 12:Int),.int .u32 (four bs 16:Int),.int .i64 (hs bs:Int),.int .i64 (tl bs:Int),.int .u8 (aJ bs 8:Int),.int .u16 (word bs 4:Int)]
abbrev aT(a b c d e f h:Int):Array Value:=#[.int .u8 a,.int .u32 b,.int .u32 c,.int .i64 d,.int .i64 e,.int .u8 f,.int .u16 h]
def Hd(w:World)(g:Nat)(a b c d e f h:Int):Prop:=w.heap[g]? = some (.cells (aT a b c d e f h) 156 (0,0))
section
variable {w w':World}{g:Nat}{a b c d e f h:Int}
theorem Hd.box(w:World)(a b c d e f h:Int):Hd (w.alloc (.cells (aT a b c d e f h) 156)) w.heap.size a b c d e f h:=heap_alloc_new w _
theorem Hd.lt(H:Hd w g a b c d e f h):g<w.heap.size:=by
 rcases Nat.lt_or_ge g w.heap.size with hlt | hge
 ·exact hlt
 ·unfold Hd at H;rw[Array.getElem?_eq_none hge]at H;cases H
theorem Hd.keep(H:Hd w g a b c d e f h)(hk:w'.heap[g]? = w.heap[g]?):Hd w' g a b c d e f h:=hk.trans H
theorem Hd.below(H:Hd w g a b c d e f h){B:Nat}(hb:Below B w w')(hg:g<B):Hd w' g a b c d e f h:=H.keep (hb.block g hg)
theorem Hd.next(H:Hd w g a b c d e f h)(hb:Below w.heap.size w w'):Hd w' g a b c d e f h:=H.keep (hb.block g H.lt)
theorem Hd.drew(H:Hd w g a b c d e f h):Hd w.drew g a b c d e f h:=H
theorem Hd.cells(H:Hd w g a b c d e f h):w.cell? ⟨g,0,none⟩=some (.int .u8 a)/\w.cell? ⟨g,1,none⟩=some (.int .u32 b)/\w.cell? ⟨g,2,none⟩=some (.int .u32 c)/\w.cell? ⟨g,3,none⟩=some (.int .i64 d) ∧
  w.cell? ⟨g,4,none⟩=some (.int .i64 e)/\w.cell? ⟨g,5,none⟩=some (.int .u8 f)/\w.cell? ⟨g,6,none⟩=some (.int .u16 h):=by
 refine⟨?_,?_,?_,?_,?_,?_,?_⟩ <;> exact(cell_of_row w g _ _ _ _ H).trans rfl
theorem Hd.frozen(H:Hd w g a b c d e f h):w.frozen? ⟨g,0,none⟩=false/\w.frozen? ⟨g,1,none⟩=false/\w.frozen? ⟨g,2,none⟩=false/\w.frozen? ⟨g,3,none⟩=false ∧
  w.frozen? ⟨g,4,none⟩=false/\w.frozen? ⟨g,5,none⟩=false/\w.frozen? ⟨g,6,none⟩=false:=by
 refine⟨?_,?_,?_,?_,?_,?_,?_⟩ <;> exact frozen_of_row w g _ _ _ H
abbrev uN(w:World)(g:Nat)(a b c d e f h:Int):World :=
 ((((((w.setCell ⟨g,0,none⟩ (.int .u8 a)).setCell ⟨g,1,none⟩ (.int .u32 b)).setCell ⟨g,2,none⟩ (.int .u32 c)).setCell ⟨g,3,none⟩ (.int .i64 d)).setCell ⟨g,4,none⟩ (.int .i64 e)).setCell ⟨g,5,none⟩ (.int .u8 f)).setCell ⟨g,6,none⟩ (.int .u16 h)
theorem Hd.store(H:Hd w g a b c d e f h)(a' b' c' d' e' f' h':Int):Hd (uN w g a' b' c' d' e' f' h') g a' b' c' d' e' f' h':=by
 have h0:=heap_setCell_same w g 0 _ _ (.int .u8 a') H;have h1:=heap_setCell_same _ g 1 _ _ (.int .u32 b') h0;have h2:=heap_setCell_same _ g 2 _ _ (.int .u32 c') h1;have h3:=heap_setCell_same _ g 3 _ _ (.int .i64 d') h2;have h4:=heap_setCell_same _ g 4 _ _ (.int .i64 e') h3;have h5:=heap_setCell_same _ g 5 _ _ (.int .u8 f') h4;have h6:=heap_setCell_same _ g 6 _ _ (.int .u16 h') h5;simpa[Hd]using h6
theorem yX(w:World)(g k:Nat)(hk:k≠g)(a b c d e f h:Int):(uN w g a b c d e f h).heap[k]? = w.heap[k]?:=by
 unfold uN
 repeat rw[Below.heap_setCell _ _ _ _ hk]
theorem vY(w:World)(g i:Nat)(u:Value):w.grownBy (w.setCell ⟨g,i,none⟩ u) (some g) :=
 ⟨rfl,rfl,rfl,by simp[World.setCell],λk _ hk=>Below.heap_setCell w ⟨g,i,none⟩ u k (λe=>hk (by rw[e]))⟩
theorem lI{B:Nat}{w0 w:World}{g:Nat}(hb:Below B w0 w)(hg:B<=g)(a b c d e f h:Int):Below B w0 (uN w g a b c d e f h) :=
 ((((((hb.setCell (p:=⟨g,0,none⟩) hg _).setCell (p:=⟨g,1,none⟩) hg _).setCell (p:=⟨g,2,none⟩) hg _).setCell (p:=⟨g,3,none⟩) hg _).setCell (p:=⟨g,4,none⟩) hg _).setCell (p:=⟨g,5,none⟩) hg _).setCell (p:=⟨g,6,none⟩) hg _
end
theorem Bx(A:Option Addr)(n c:Nat)(bs:List UInt8)(B:Nat)(W:World)(hb:bI W B A n bs)(hB:B<=W.heap.size)(hc:n<=c)(hm:c<=9223372036854775807)(E5:20<=n) :
  Calls Tryz.prog 134 #[.slice A n c] W λe w'=>e = .returned (xI bs)/\Below W.heap.size W w':=by
 obtain⟨b,off,rfl,hlt,-⟩:=hb.at_ zo
 have hl:=hb.len
 have N1:=hid (λW hb=>cW (some ⟨b,off,none⟩) n c bs B 12 4 _ W hb hc hm zo zo zo (Bw bs 12 zo))
 have N2:=hid (λW hb=>cW (some ⟨b,off,none⟩) n c bs B 16 4 _ W hb hc hm zo zo zo (Bw bs 16 zo))
 have N3:=hid (λW hb=>cW (some ⟨b,off,none⟩) n c bs B 2 2 _ W hb hc hm zo zo zo (mM bs 2 zo))
 have N4:=hid (λW hb=>cW (some ⟨b,off,none⟩) n c bs B 4 2 _ W hb hc hm zo zo zo (mM bs 4 zo))
 have HN:=hid hl
 have qV:=hid hb
 have i0:0<n:=zo
 have i8:(8:Int)<n:=zo
 have i9:(9:Int)<n:=zo
 clear hb hl
 go_in
 go_wp2
 have HB:=hid ((qV.out.alloc hB (.cells (aT 0 0 0 0 0 0 0) 156)).drew)
 have HZ:=hid (Hd.box W 0 0 0 0 0 0 0).drew
 have az:=((Below.refl _ W).alloc zl (.cells (aT 0 0 0 0 0 0 0) 156)).drew
 obtain⟨w1,hw1⟩:∃w1,w1=(W.alloc (.cells (aT 0 0 0 0 0 0 0) 156)).drew:=⟨_,rfl⟩
 refine aD 25 zk zk w1 hw1 ?_
 rw[← hw1]at HB HZ az
 clear hw1
 simp only[List.take_succ_cons,List.take_zero,List.drop_succ_cons,List.drop_zero]
 obtain⟨b',off',e',-,hcell⟩:=HB.out.at_ zo
 obtain⟨rfl,rfl⟩:b=b'/\off=off':=by injection e' with e';injection e' with e1 e2;exact⟨e1,e2⟩
 have c9:=hcell 9 zo
 have c0:=hcell 0 zo
 rw[Nat.add_zero]at c0
 have c8:=hcell 8 zo
 have n1:=hid (pT (N1.out w1 HB.out))
 have n2:=hid (pT (N2.out w1 HB.out))
 have n3:=hid (pT (N3.out w1 HB.out))
 have n4:=hid (pT (N4.out w1 HB.out))
 have hf:=bS bs 12
 have Ob:=bS bs 16
 have uO:=aU bs 2
 have Sl:=aU bs 4
 obtain⟨z0,z1,z2,z3,z4,z5,z6⟩:=HZ.out.cells
 obtain⟨f0,f1,f2,f3,f4,f5,f6⟩:=HZ.out.frozen
 have hnb:=HN.out
 have w1e:IntKind.u32.wrap (four bs 12:Int)=(four bs 12:Int):=by simp[IntKind.wrap,IntKind.bits,IntKind.signed];omega
 have w2e:IntKind.u32.wrap (four bs 16:Int)=(four bs 16:Int):=by simp[IntKind.wrap,IntKind.bits,IntKind.signed];omega
 have w3e:IntKind.i64.wrap (word bs 2:Int)=(tl bs:Int):=IntWalk.i64_in _ zo
 have w4e:IntKind.u16.wrap (word bs 4:Int)=(word bs 4:Int):=by simp[IntKind.wrap,IntKind.bits,IntKind.signed];omega
 have w0e:bits .and .u8 (aJ bs 0:Int) 15=(aJ bs 0:Int) % 16:=by have:=dB bs 0;exact u8_and15 (x:=(aJ bs 0:Int)) zo zo
 have w5e:IntKind.i64.wrap ((aJ bs 0:Int) % 16)=(aJ bs 0:Int) % 16:=IntWalk.i64_in _ zo
 have w6e:IntKind.i64.wrap ((aJ bs 0:Int) % 16*4)=(hs bs:Int):=by rw[IntWalk.i64_in _ zo];unfold hs;omega
 clear e' hcell N1 N2 N3 N4 hnb
 repeat still_step
 still_call (n1.out)
 repeat still_step
 still_call (n2.out)
 repeat still_step
 still_call (n3.out)
 repeat still_step
 still_call (n4.out)
 repeat still_step
 refine wpStill_nil ?_
 go_wp2
 have hr:=HZ.out.store (aJ bs 9) (four bs 12) (four bs 16) (hs bs) (tl bs) (aJ bs 8) (word bs 4)
 obtain⟨r0,r1,r2,r3,r4,r5,r6⟩:=hr.cells
 exact bodyPost_ret (v:=xI bs) (by simp[results,Tryz.results134,go_sem,xI,r0,r1,r2,r3,r4,r5,r6]) rfl ⟨rfl,lI az zl _ _ _ _ _ _ _⟩
theorem dy:(Tryz.prog.info? 5).map (λi=>(i.zero,i.size,i.bytes))=some (some (.int .u8 0),1,1):=zk
def mN(w:World)(n:Nat)(bs:List UInt8)(e:Ending)(w':World):Prop :=
 ∃A c,e = .returned (.slice A n c)/\w'.ownsRow w.heap.size 5 1 (.slice A n c) n (fE bs)/\Below w.heap.size w w'/\(n<=c/\c<=9223372036854775807)
theorem fS{w:World}{base n c:Nat}{A:Option Addr}{bs:List UInt8}(h:w.ownsRow base 5 1 (.slice A n c) n (fE bs)):bI w w.heap.size A n bs:=lp h rfl
theorem jZ(w:World)(cs:List UInt8)(n:Nat)(hn:cs.length=n)(hm:n<=1000000)(vs:Array Value)(hv:vs=(fE cs).toArray) :
  (w.alloc (.cells vs 5)).ownsRow w.heap.size 5 1 (.slice (some ⟨w.heap.size,0,none⟩) n n) n (fE cs):=by
 subst hv
 simpa using World.ownsRow_lit (e:=5) (size:=1) (base:=w.heap.size) w (fE cs).toArray n zl (by unfold maxLen;omega) (by simp[iU,hn])
def Row(w:World)(g:Nat)(bs:List UInt8):Prop:=w.heap[g]? = some (.cells (fE bs).toArray 5 (0,0))
theorem Row.lt{w:World}{g:Nat}{bs:List UInt8}(h:Row w g bs):g<w.heap.size:=by
 rcases Nat.lt_or_ge g w.heap.size with hlt | hge
 ·exact hlt
 ·unfold Row at h;rw[Array.getElem?_eq_none hge]at h;cases h
theorem Row.Ti{w:World}{g:Nat}{bs:List UInt8}(h:Row w g bs):bI w w.heap.size (some ⟨g,0,none⟩) bs.length bs:=ED w g _ _ bs h rfl
def M6(g:Nat)(w w':World):Prop:=w.grownBy w' (some g)
end Ip
end Go.Proofs.YtbhnbcadgmagpaaGreatDoor
