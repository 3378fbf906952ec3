import Derived.Test.YtfmioihcaohgiaaGreatDoorProg
import Derived.Below
import Derived.BigQuiet
import Derived.Deep.QuietTactic
import Derived.KernelRfl
import Derived.Laws.OwnMore
import Derived.Laws.Rows
import Derived.WalkKit
import Derived.WalkLawsBesides
import Derived.Shelf.Abstract
import Derived.Shelf.RegionOpen
import Derived.TacticsInMore
import Derived.Deep.Cut
import Derived.RangeFuncRecord
import Derived.Test.YtfmioihcaohgiaaGreatDoorJO
import Derived.LaidSub
import Derived.LaidMore
import Derived.Stop.Joined
import Derived.ProofKit
import Derived.Test.YtfmioihcaohgiaaGreatDoorLA
open List renaming getElem?_eq_getElem → z3z, getElem?_eq_some_iff → z4z
open Go.RowKit.Below renaming refl → z2z
open Go.IntKind renaming i64 → z1z
open And renaming intro → z0z
open Go.Proofs.Tryz
set_option maxRecDepth 1000000
set_option maxHeartbeats 8000000
namespace Go.Proofs.YtfmioihcaohgiaaGreatDoor.W.Cs
open Go.ChangeShapes Go.WideShapes Go.RowKit Go.Shelf
set_option linter.unusedVariables false
set_option linter.unusedSimpArgs false
def Hd(p:Prop):Prop:=p
theorem hd{p:Prop}(h:p):Hd p:=h
theorem Hd.out{p:Prop}(h:Hd p):p:=h
theorem bdn{B:Nat}{a w:World}(h:Below B a w)(n:Nat):Below B a (w.drewN n):=⟨h.os,h.tape,h.output,h.size,h.block⟩
theorem wr6(n:Int)(h0:0<=n)(h:n<=1000000):wrap64 n=n:=by unfold wrap64;omega
theorem wri(n:Int)(h0:0<=n)(h:n<=1000000):z1z.wrap n=n:=by rw[IntKind.wrap_i64];omega
theorem up1{m n:Nat}(h:n<=100000)(hm:m<=n):(0:Int)<=(m:Int)+1/\(m:Int)+1<=1000000:=by omega
theorem up2{m n:Nat}(h:n<=100000)(hm:m+1<=n):(0:Int)<=(m:Int)+1+1/\(m:Int)+1+1<=1000000:=by omega
theorem up0{m n:Nat}(h:n<=100000)(hm:m<=n):(0:Int)<=(m:Int)/\(m:Int)<=1000000:=by omega
def Nds(w:World)(g nn:Nat)(ki:Nat->Int)(tx:Nat->ByteArray):Prop:=g<w.heap.size/\∀i,i<nn->w.cell? ⟨g,i*6,none⟩=some (.int .i64 (ki i))/\w.cell? ⟨g,i*6+3,none⟩=some (.string (tx i))
theorem Nds.below{w w':World}{g nn:Nat}{ki:Nat->Int}{tx:Nat->ByteArray}(h:Nds w g nn ki tx)(hB:Below w.heap.size w w'):Nds w' g nn ki tx:=⟨Nat.lt_of_lt_of_le h.1 hB.size,λi hi=>⟨(hB.cell (p:=⟨g,_,none⟩) h.1).trans (h.2 i hi).1,(hB.cell (p:=⟨g,_,none⟩) h.1).trans (h.2 i hi).2⟩⟩
def Oz(w:World)(o:Option Addr)(xs:List Int):Prop:=∀ (j:Nat) (x:Int),xs[j]? = some x->∃g,o=some ⟨g,0,none⟩/\g<w.heap.size/\w.cell? ⟨g,j,none⟩=some (.int .i64 x)
theorem Oz.below{w w':World}{o:Option Addr}{xs:List Int}(h:Oz w o xs)(hB:Below w.heap.size w w'):Oz w' o xs:=λj x hx=>by
 obtain⟨g,e,h1,h2⟩:=h j x hx
 exact⟨g,e,Nat.lt_of_lt_of_le h1 hB.size,(hB.cell (p:=⟨g,_,none⟩) h1).trans h2⟩
def five(l:List UInt8):Bool:=l==[38]||l==[124]||l==[94]||l==[60,60]||l==[62,62]
def opC(c:Nat):Prop:=c=43\/c=45\/c=42\/c=47\/c=37\/c=60\/c=62\/c=61\/c=33
theorem cs_long(s:ByteArray)(hs:6000<s.size)(w:World):Calls prog 6 #[.string s] w λe w'=>e=.returned (.bool true)/\Below w.heap.size w w':=by
 have j1:((s.size:Nat):Int)>6000:=by omega
 clear hs
 go_enter func6,ntmps6
 go_wp2
 go_ret
 exact⟨rfl,z2z _ _⟩
theorem cs_bad(s:ByteArray)(hs:s.size<=6000)(x y:Int)(hx:(x != 0)=true)(w:World)(cA:Calls prog 8 #[.string s] w λe w'=>e=.returned (.tuple #[.slice none 0 0,.agg #[.int .i64 x,.int .i64 y]])/\Below w.heap.size w w')
  (cW:∀w1,Below w.heap.size w w1->Calls prog 11 #[] w1 λe w'=>e=.returned (.bool true)/\Below w1.heap.size w1 w'):Calls prog 6 #[.string s] w λe w'=>e=.returned (.bool true)/\Below w.heap.size w w':=by
 have j1:¬ ((s.size:Nat):Int)>6000:=by omega
 clear hs
 go_enter func6,ntmps6
 go_wp2_with (first|(go_at_call 8;(with_reducible refine cA.mono ?_);rintro e w2 ⟨rfl,hB2⟩;(have b3:=hB2.alloc hB2.size (.cells #[.int .i64 x,.int .i64 y] 26));(have cW:=cW _ b3);(have HB3:=hd b3);clear hB2 cA b3)|(go_at_call 11;(with_reducible refine cW.mono ?_);rintro e w6 ⟨rfl,hB6⟩;(have HB6:=hd (HB3.out.trans (hB6.mono HB3.out.size)));clear hB6 cW))
 go_ret
 exact⟨rfl,HB6.out⟩
section
variable (s:ByteArray) (hs:s.size<=6000) (nn:Nat) (hnn:nn<=100000) (ki:Nat->Int) (tx:Nat->ByteArray) (cnt:Nat->Nat) (hc0:cnt 0=0) (hc1:∀ i,i < nn->cnt (i + 1)=cnt i + (if (ki i == 21)=true/\five (tx i).toList=false then 1 else 0)) (hcb:∀ i,cnt i<=i)
 (xs:List Int) (hxl:xs.length<=100000) (hfin:cnt nn=xs.length)
 (hxs:∀ (j:Nat) (x:Int),xs[j]? = some x->∃k:Nat,x=(k:Int)/\∃h:k<s.size,opC s[k].toNat) (hrise:∀ (i:Nat) (a b:Int),xs[i]? = some a->xs[i+1]? = some b->a<b)
 (w:World) (J:World->Nat->Nat->Prop) (hJ:∀w1 g cap,J w1 g cap->Nds w1 g nn ki tx) (hJb:∀w1 w2 g cap,J w1 g cap->Below w1.heap.size w1 w2->J w2 g cap)
 (cA:Calls prog 8 #[.string s] w λe w'=>∃g cap,e=.returned (.tuple #[.slice (some ⟨g,0,none⟩) nn cap,.agg #[.int .i64 0,.int .i64 0]])/\Below w.heap.size w w'/\J w' g cap)
 (cS:∀w1 g cap,Below w.heap.size w w1->J w1 g cap->Calls prog 13 #[.slice (some ⟨g,0,none⟩) nn cap] w1 λe w'=>∃o cp,e=.returned (.slice o xs.length cp)/\Below w1.heap.size w1 w'/\Oz w' o xs)
 (cW:∀w1,Below w.heap.size w w1->Calls prog 11 #[] w1 λe w'=>e=.returned (.bool true)/\Below w1.heap.size w1 w')
include hs hnn hc0 hc1 hcb hxl hfin hxs hrise hJ hJb cA cS cW
theorem cs_good:Calls prog 6 #[.string s] w λe w'=>e=.returned (.bool true)/\Below w.heap.size w w':=by
 have j1:¬ ((s.size:Nat):Int)>6000:=by omega
 have HS:=hd hs
 have HNN:=hd hnn
 have HC:=hd (z0z hc0 (z0z hc1 hcb))
 have HX:=hd (z0z hxl (z0z hfin (z0z hxs hrise)))
 have HJ:=hd (z0z hJ hJb)
 have CS:=hd cS
 have CW:=hd cW
 clear hs hnn hc0 hc1 hcb hxl hfin hxs hrise hJ hJb cS cW
 go_enter func6,ntmps6
 go_upto_region 4 with(go_at_call 8;(with_reducible refine cA.mono ?_);rintro e w1 ⟨g,cap,rfl,hB1,hN1⟩;(have HB1:=hd hB1);(have HN1:=hd hN1);clear cA hB1 hN1)
 have b1:Below w1.heap.size w1 (w1.alloc (.cells #[.int .i64 0,.int .i64 0] 26)):=(z2z _ w1).alloc (Nat.le_refl _) _
 have d1:=World.alloc_heap_new w1 (.cells #[.int .i64 0,.int .i64 0] 26)
 have bb1:=HB1.out.trans (b1.mono HB1.out.size)
 have n1:=HJ.out.2 _ _ _ _ HN1.out b1
 have c1:=CS.out _ g cap bb1 n1
 have e0:=cell_of_row _ _ 0 _ _ _ d1
 simp only[List.getElem?_toArray,List.getElem?_cons_zero,List.getElem?_cons_succ] at e0
 have HB2:=hd bb1
 have HN2:=hd n1
 clear b1 d1 bb1 n1 HB1 HN1 CS
 generalize hk1:w1.heap.size=k1 at *
 generalize w1.alloc (.cells #[.int .i64 0,.int .i64 0] 26)=W1 at *
 clear hk1
 go_upto_region 7 with(go_at_call 13;(with_reducible refine c1.mono ?_);rintro e w3 ⟨o,cp,rfl,hB3,hO3⟩;(have HB3:=hd (HB2.out.trans (hB3.mono HB2.out.size)));(have HN3:=hd (HJ.out.1 _ _ _ (HJ.out.2 _ _ _ _ HN2.out hB3)));(have HO3:=hd hO3);clear c1 hB3 hO3 e0)
 clear HB2 HN2
 go_wp2
 go_loopw [6] (λii wr=>∃i:Nat,ii=.int .i64 (i:Nat)/\i<=xs.length/\Below w3.heap.size w3 wr) (λii _=>xs.length-(intOf ii).toNat)
 case atStart=>exact⟨0,rfl,Nat.zero_le _,z2z _ _⟩
 case round=>
  obtain⟨i,rfl,hi,hB⟩:=hrel
  have hxl:=HX.out.1
  have ho:=HO3.out.below hB
  have HB:=hd hB
  clear hB
  by_cases hin:i<xs.length
  ·obtain⟨x,hx⟩:∃x,xs[i]? = some x:=⟨_,z3z hin⟩
   obtain⟨k,rfl,hk,hop⟩:=HX.out.2.2.1 i x hx
   obtain⟨gs,rfl,hgs,cx⟩:=ho i _ hx
   have m1:((i:Nat):Int)<xs.length:=by omega
   have m0:(0:Int)<=(i:Nat):=by omega
   have HM:=hd (show xs.length-(intOf (.int .i64 ((i:Int)+1))).toNat<xs.length-(intOf (.int .i64 (i:Int))).toNat by show xs.length-((i:Int)+1).toNat<xs.length-((i:Int)).toNat;omega)
   have g1:decide ((k:Int)≥((s.size:Nat):Int))=false:=by simp;omega
   have g1':¬s.size<=k:=by omega
   have g0:decide ((k:Int)<0)=false:=by simp
   have HWK:=hd (wri ((i:Int)+1) (up1 hxl hi).1 (up1 hxl hi).2)
   have HIN:=hd hin
   have HOP:=hd hop
   have HHK:=hd hk
   clear ho hxl hin hop hi
   by_cases hi0:i=0
   ·subst hi0
    have wk:=HWK.out
    go_upto_region 10 with fail
    go_quiet (fail)
    clear g1 g1' g0
    have hk:=HHK.out
    rcases HOP.out with h|h|h|h|h|h|h|h|h
    all_goals go_wp2
    all_goals exact⟨⟨1,rfl,HIN.out,bdn HB.out _⟩,HM.out⟩
   ·obtain⟨m,rfl⟩:∃m,i=m+1:=⟨i-1,by omega⟩
    clear hi0
    have hml:m<xs.length:=by obtain⟨h1,_⟩:=z4z.1 hx;omega
    obtain⟨y,hy⟩:∃y,xs[m]? = some y:=⟨_,z3z hml⟩
    clear hml
    obtain⟨k',rfl,_,_⟩:=HX.out.2.2.1 m y hy
    have hlt:=HX.out.2.2.2 m _ _ hy hx
    have q0:((m:Int)+1>0):=by omega
    have q1:¬k<=k':=by omega
    obtain⟨gs',e,_,cy⟩:=(HO3.out.below HB.out) m _ hy
    simp only[Option.some.injEq,Addr.mk.injEq,and_true] at e
    rw[<- e] at cy
    have HML:=hd (show m+1<=xs.length by omega)
    have n1:(m:Int)+1<xs.length:=by omega
    have n0:(0:Int)<=(m:Int)+1:=by omega
    have n2:((m:Int)+1).toNat=m+1:=by omega
    have q2:(m:Int)<xs.length:=by omega
    have q3:(0:Int)<=(m:Int):=by omega
    clear hlt hy e
    have wk:=HWK.out
    have wj2:z1z.wrap (m:Int)=(m:Int):=wri _ (up0 HX.out.1 (Nat.le_of_succ_le HML.out)).1 (up0 HX.out.1 (Nat.le_of_succ_le HML.out)).2
    have wj:z1z.wrap ((m:Int)+1-1)=(m:Int):=by rw[Int.add_sub_cancel];exact wj2
    have wk2:wrap64 ((m:Int)+1+1)=(m:Int)+1+1:=wr6 _ (up2 HX.out.1 HML.out).1 (up2 HX.out.1 HML.out).2
    go_upto_region 10 with fail
    go_quiet (fail)
    clear g1 g1' g0 cy q0 q1 q2 q3 wj
    have hk:=HHK.out
    rcases HOP.out with h|h|h|h|h|h|h|h|h
    all_goals go_wp2
    all_goals exact⟨⟨m+1+1,by rw[wk2];rfl,HIN.out,bdn HB.out _⟩,by rw[wk2];exact HM.out⟩
  ·clear ho hxl hi
   have HB4:=HB
   go_wp2
   clear hin
   go_loopw [7,8] (λcc ii wq=>∃q:Nat,ii=.int .i64 (q:Nat)/\q<=nn/\cc=.int .i64 (cnt q:Nat)/\Below wr.heap.size wr wq) (λ_ ii _=>nn-(intOf ii).toNat)
   case atStart=>exact⟨0,rfl,Nat.zero_le _,by rw[HC.out.1];rfl,z2z _ _⟩
   case round=>
    obtain⟨q,rfl,hq,rfl,hB⟩:=hrel
    have hb5:=HB4.out.trans (hB.mono HB4.out.size)
    have HB5:=hd hb5
    have hnn:=HNN.out
    have hcq:=HC.out.2.2 q
    by_cases hin:q<nn
    ·obtain⟨c0,c3⟩:=(HN3.out.below hb5).2 q hin
     have hcn:=HC.out.2.1 q hin
     have m1:((q:Nat):Int)<nn:=by omega
     have m0:(0:Int)<=(q:Nat):=by omega
     have HM:=hd (show nn-(intOf (.int .i64 ((q:Int)+1))).toNat<nn-(intOf (.int .i64 (q:Int))).toNat by show nn-((q:Int)+1).toNat<nn-((q:Int)).toNat;omega)
     have hqc:cnt q<=nn:=by omega
     have wk:z1z.wrap ((q:Int)+1)=(q:Int)+1:=wri _ (up1 hnn hq).1 (up1 hnn hq).2
     have wk':wrap64 ((q:Int)+1)=(q:Int)+1:=wr6 _ (up1 hnn hq).1 (up1 hnn hq).2
     have wc:z1z.wrap ((cnt q:Int)+1)=(cnt q:Int)+1:=wri _ (up1 hnn hqc).1 (up1 hnn hqc).2
     have wc':wrap64 ((cnt q:Int)+1)=(cnt q:Int)+1:=wr6 _ (up1 hnn hqc).1 (up1 hnn hqc).2
     clear hqc
     have HIN:=hd hin
     have HBQ:=hd hB
     clear hin hq hB hb5 hnn hcq
     unfold five at hcn
     generalize tx q=tq at *
     generalize hki:(ki q==21)=kb at *
     generalize cnt q=cq at *
     have HCN:=hd hcn
     clear hcn
     cases kb with
     | false=>(go_wp2;exact⟨⟨q+1,rfl,HIN.out,(by have h:=HCN.out;simp at h;rw[h];try rfl),HBQ.out⟩,HM.out⟩)
     | true=>
      cases h1:(tq.toList==[38]) with
      | true=>rw[h1] at HCN;(go_wp2;exact⟨⟨q+1,rfl,HIN.out,(by have h:=HCN.out;simp at h;rw[h];try rfl),HBQ.out⟩,HM.out⟩)
      | false=>
       cases h2:(tq.toList==[124]) with
       | true=>rw[h1,h2] at HCN;(go_wp2;exact⟨⟨q+1,rfl,HIN.out,(by have h:=HCN.out;simp at h;rw[h];try rfl),HBQ.out⟩,HM.out⟩)
       | false=>
        cases h3:(tq.toList==[94]) with
        | true=>rw[h1,h2,h3] at HCN;(go_wp2;exact⟨⟨q+1,rfl,HIN.out,(by have h:=HCN.out;simp at h;rw[h];try rfl),HBQ.out⟩,HM.out⟩)
        | false=>
         cases h4:(tq.toList==[60,60]) with
         | true=>rw[h1,h2,h3,h4] at HCN;(go_wp2;exact⟨⟨q+1,rfl,HIN.out,(by have h:=HCN.out;simp at h;rw[h];try rfl),HBQ.out⟩,HM.out⟩)
         | false=>
          cases h5:(tq.toList==[62,62]) with
          | true=>rw[h1,h2,h3,h4,h5] at HCN;(go_wp2;exact⟨⟨q+1,rfl,HIN.out,(by have h:=HCN.out;simp at h;rw[h];try rfl),HBQ.out⟩,HM.out⟩)
          | false=>rw[h1,h2,h3,h4,h5] at HCN;(go_wp2;exact⟨⟨q+1,rfl,HIN.out,(by have h:=HCN.out;simp at h;rw[h];try rfl),HBQ.out⟩,HM.out⟩)
    ·obtain rfl:q=nn:=by omega
     have e9:((cnt q:Nat):Int)=(xs.length:Int):=by rw[HX.out.2.1]
     have cw:=CW.out _ (HB3.out.trans ((HB5.out).mono HB3.out.size))
     rw[e9]
     clear e9 hb5 hq hin hcq hnn hB
     go_wp2_with (go_at_call 11;(with_reducible refine cw.mono ?_);rintro e w6 ⟨rfl,hB6⟩;(have HB6:=hd hB6);clear hB6 cw)
     go_ret
     exact⟨rfl,(HB3.out.trans ((HB5.out).mono HB3.out.size)).trans (HB6.out.mono (HB3.out.trans ((HB5.out).mono HB3.out.size)).size)⟩
end
end Go.Proofs.YtfmioihcaohgiaaGreatDoor.W.Cs
namespace Go.Proofs.YtfmioihcaohgiaaGreatDoor.W
open Go.ChangeShapes Go.WideShapes Go.ChangeAt Go.RowKit
def laid5 : List (String × DataW Unit) := [("math/bits.deBruijn32tab", Rows.laid_math_bits_deBruijn32tab), ("math/bits.deBruijn64tab", Rows.laid_math_bits_deBruijn64tab), ("internal/strconv.uint64pow10", Rows.laid_internal_strconv_uint64pow10), ("casket/ops.kindNames", Rows.laid_casket_ops_kindNames), ("casket/lex.marks", Rows.laid_casket_lex_marks)]
theorem door5(os:Os)(args:Array Value):laidMetH prog laid5 ((World.doorLaid prog 400 os).forCall (λ_ _=>0) ⟨#[],args,[]⟩).memory:=
 laidMetH_of_parts3 (fuel:=8) (laidMet_of_run' 8 (by kernel_rfl) (by kernel_rfl)) (by kernel_rfl) (by kernel_rfl)
theorem of_laid5{W:World}(h:laidMetH prog laid5 W):Tabs W/\MarksIn W:=by
 have h4 := h.filter fun x => ["math/bits.deBruijn32tab", "math/bits.deBruijn64tab", "internal/strconv.uint64pow10", "casket/lex.marks"].contains x.1
 rw [show (laid5.filter fun x => ["math/bits.deBruijn32tab", "math/bits.deBruijn64tab", "internal/strconv.uint64pow10", "casket/lex.marks"].contains x.1) = laidV by kernel_rfl] at h4
 exact of_laid h4
end Go.Proofs.YtfmioihcaohgiaaGreatDoor.W
namespace Go.Proofs.YtfmioihcaohgiaaGreatDoor.W.Tr
open Go.ChangeShapes Go.WideShapes Go.RowKit Go.Shelf Go.ChangeMaps Ck
set_option linter.unusedVariables false
set_option linter.unusedSimpArgs false
def kiL(L:List (Nd × Nat))(i:Nat):Int:=match L[i]? with|some p=>p.1.kind|none=>0
def txL(L:List (Nd × Nat))(i:Nat):ByteArray:=match L[i]? with|some p=>p.1.text|none=>⟨#[]⟩
theorem nds_of{w:World}{g cap:Nat}{L:List (Nd × Nat)}(h:NodesIn w (.slice (some ⟨g,0,none⟩) L.length cap) L):Cs.Nds w g L.length (kiL L) (txL L):=by
 obtain⟨g',cap',e,h1,h2,h3⟩:=h
 simp only[Value.slice.injEq,Option.some.injEq,Addr.mk.injEq,true_and,and_true] at e
 obtain⟨rfl,rfl⟩:=e
 refine⟨h1,λi hi=>?_⟩
 have hp:=z3z hi
 unfold kiL txL
 rw[hp]
 exact⟨h3 i _ hp 0 (by decide),h3 i _ hp 3 (by decide)⟩
theorem oz_of{w:World}{B:Nat}{v:Value}{xs:List Int}(h:OZ w B v xs):∃o cp,v=.slice o xs.length cp/\Cs.Oz w o xs:=by
 rcases h.2 with⟨rfl,e⟩|⟨g,cap,cur,rfl,h1,h2,h3,h4,h5,h6⟩
 ·rw[e]
  refine⟨none,0,rfl,λj x hx=>?_⟩
  rw[List.eq_nil_of_length_eq_zero e] at hx
  cases hx
 ·refine⟨_,cap,rfl,λj x hx=>⟨g,rfl,(Array.getElem?_eq_some_iff.1 h2).1,?_⟩⟩
  rw[cell_of_row w g j _ _ _ h2]
  have hj:j<xs.length:=(z4z.1 hx).1
  have e1:(cur.toList.take (xs.length*1))[j]? = (xs.map ivz)[j]?:=by rw[<- h6]
  rw[List.getElem?_take,if_pos (by omega),Array.getElem?_toList,List.getElem?_map,hx] at e1
  exact e1
theorem cnt_step(L:List (Nd × Nat))(i:Nat)(hi:i<L.length):cntB (L.take (i+1))=cntB (L.take i)+(if (kiL L i==21)=true/\Cs.five (txL L i).toList=false then 1 else 0):=by
 have hp:=z3z hi
 have ht:L.take (i+1)=L.take i++[L[i]]:=by rw[List.take_add_one,hp];rfl
 unfold kiL txL
 rw[hp,ht]
 unfold cntB
 rw[List.filter_append,List.length_append]
 congr 1
 have e5:Cs.five L[i].1.text.toList=fiveP L[i].1.text.toList:=rfl
 simp only[e5]
 cases h1:(L[i].1.kind==21) <;> cases h2:fiveP L[i].1.text.toList <;> simp[List.filter,h1,h2]
theorem cnt_most(L:List (Nd × Nat))(i:Nat):cntB (L.take i)<=i:=by
 unfold cntB
 exact Nat.le_trans (List.length_filter_le _ _) (by rw[List.length_take];omega)
theorem op_c{c:UInt8}(h:opB c=true):Cs.opC c.toNat:=by
 unfold opB at h
 simp only[Bool.or_eq_true,beq_iff_eq] at h
 unfold Cs.opC
 rcases h with(((((((h|h)|h)|h)|h)|h)|h)|h)|h <;> subst h <;> decide
end Go.Proofs.YtfmioihcaohgiaaGreatDoor.W.Tr
namespace Go.Proofs.YtfmioihcaohgiaaGreatDoor.W
set_option linter.unusedVariables false
open Go.ChangeShapes Go.WideShapes Go.RowKit Go.Shelf
theorem checkSites_walk(src:ByteArray)(w0:src.size<=maxLen)(w:World)(ht:Tabs w)(hm:MarksIn w):Calls prog 6 #[.string src] w λe w'=>e=.returned (.bool true)/\Below w.heap.size w w':=by
 by_cases h:6000<src.size
 ·exact Cs.cs_long src h w
 have hs:src.size<=6000:=by omega
 have sl:=size_list src
 have cW:=λw1 (hB:Below w.heap.size w w1)=>Tr.awake13_c w1 (ht.below hB) (hm.below hB)
 rcases Tr.load_any src hs with⟨x,y,hx,hb⟩|⟨u,y,hR,hc,hg⟩
 ·exact Cs.cs_bad src hs x y (by simpa using hx) w (hb w ht hm) cW
 ·have hl:src.data.toList.length<=6000:=by rw[sl];exact hs
  obtain⟨hnd,hsp⟩:=Tr.sites_plain hl hR
  have hmem:∀x,x ∈ Tr.srt (Tr.sitesP (Tr.rowU u))->x ∈ Tr.sitesP (Tr.rowU u):=λx hx=>(List.mergeSort_perm _ _).mem_iff.1 hx
  have hcs:=Tr.cnt_sites hR
  have hfew:=hR.few
  have hsl:=Tr.sitesP_len (Tr.rowU u)
  have hcl:(Tr.srt (Tr.sitesP (Tr.rowU u))).length=(Tr.sitesP (Tr.rowU u)).length:=Tr.srt_len _
  refine Cs.cs_good src hs (Tr.rowU u).length hfew (Tr.kiL (Tr.rowU u)) (Tr.txL (Tr.rowU u)) (λi=>Tr.cntB ((Tr.rowU u).take i)) rfl (Tr.cnt_step _) (Tr.cnt_most _) (Tr.srt (Tr.sitesP (Tr.rowU u))) (by rw[hcl];exact Nat.le_trans hsl hfew) (by simp only[List.take_length];rw[hcs,hcl]) ?_ (Tr.srt_rise hnd) w (λw1 g cap=>Tr.NodesIn w1 (.slice (some ⟨g,0,none⟩) (Tr.rowU u).length cap) (Tr.rowU u)) (λw1 g cap hJ=>Tr.nds_of hJ) (λw1 w2 g cap hJ hB=>hJ.below hB) (hg w ht hm) ?_ cW
  ·intro j x hj
   obtain⟨k,c,rfl,hk,ho⟩:=hsp x (hmem x (List.mem_of_getElem? hj))
   obtain⟨hk1,hk2⟩:=z4z.1 hk
   refine⟨k,rfl,by omega,?_⟩
   have:src[k]=c:=by rw[<- hk2];rfl
   rw[this]
   exact Tr.op_c ho
  ·intro w1 g cap hB hJ
   refine(Tr.sites_c _ u rfl hR.wt _ rfl hR.few hR.pr y hc g cap w1 (ht.below hB) (hm.below hB) hJ).mono ?_
   rintro e w' ⟨v,rfl,hB2,hO⟩
   obtain⟨o,cp,rfl,hO2⟩:=Tr.oz_of hO
   exact⟨o,cp,rfl,hB2,hO2⟩
end Go.Proofs.YtfmioihcaohgiaaGreatDoor.W
