import Derived.Test.YtjplieobnknnpaaGreatDoorProg
import Derived.Below
import Derived.BigQuiet
import Derived.Deep.QuietTactic
import Derived.KernelRfl
import Derived.Laws.OwnMore
import Derived.Laws.Rows
import Derived.WalkKit
import Derived.WalkLawsBesides
import Derived.Shelf.Abstract
import Derived.Shelf.RegionOpen
import Derived.TacticsInMore
import Derived.Deep.Cut
import Derived.RangeFuncRecord
import Derived.Test.YtjplieobnknnpaaGreatDoorKA
import Derived.Test.YtjplieobnknnpaaGreatDoorKY
import Derived.Test.YtjplieobnknnpaaGreatDoorJJ
import Derived.Test.YtjplieobnknnpaaGreatDoorKS
import Derived.Test.YtjplieobnknnpaaGreatDoorKJ
import Derived.Test.YtjplieobnknnpaaGreatDoorLA
import Derived.Test.YtjplieobnknnpaaGreatDoorJO
import Derived.LaidSub
import Derived.LaidMore
import Derived.Stop.Joined
import Derived.ProofKit
open List renaming length_append → z4z, mem_singleton → z6z, length_cons → z10z, getElem?_cons_succ → z11z, mem_cons → z12z, mem_append → z13z, eq_nil_of_length_eq_zero → z15z, getElem?_append_left → z16z, getElem?_append_right → z17z, getElem?_eq_getElem → z18z
open Array renaming getElem?_eq_some_iff → z3z
open Nat renaming le_refl → z0z, zero_add → z2z
open Go.World renaming setCell → z1z, frozen? → z9z, alloc_heap_new → z14z
open Go.RowKit.Below renaming refl → z7z
open Go.IntKind renaming i64 → z5z
open And renaming intro → z8z
open Go.Proofs.Tryz
set_option maxRecDepth 1000000
set_option maxHeartbeats 8000000
namespace Go.Proofs.YtjplieobnknnpaaGreatDoor.W.Cs
open Go.ChangeShapes Go.WideShapes Go.RowKit Go.Shelf
set_option linter.unusedVariables false
set_option linter.unusedSimpArgs false
def Hd(p:Prop):Prop:=p
theorem hd{p:Prop}(h:p):Hd p:=h
theorem Hd.out{p:Prop}(h:Hd p):p:=h
theorem bdn{B:Nat}{a w:World}(h:Below B a w)(n:Nat):Below B a (w.drewN n):=⟨h.os,h.tape,h.output,h.size,h.block⟩
theorem wr6(n:Int)(h0:0<=n)(h:n<=1000000):wrap64 n=n:=by unfold wrap64;omega
theorem wri(n:Int)(h0:0<=n)(h:n<=1000000):z5z.wrap n=n:=by rw[IntKind.wrap_i64];omega
theorem up1{m n:Nat}(h:n<=100000)(hm:m<=n):(0:Int)<=(m:Int)+1/\(m:Int)+1<=1000000:=by omega
theorem up2{m n:Nat}(h:n<=100000)(hm:m+1<=n):(0:Int)<=(m:Int)+1+1/\(m:Int)+1+1<=1000000:=by omega
theorem up0{m n:Nat}(h:n<=100000)(hm:m<=n):(0:Int)<=(m:Int)/\(m:Int)<=1000000:=by omega
def Nds(w:World)(g nn:Nat)(ki:Nat->Int)(tx:Nat->ByteArray):Prop:=g<w.heap.size/\∀i,i<nn->w.cell? ⟨g,i*6,none⟩=some (.int .i64 (ki i))/\w.cell? ⟨g,i*6+3,none⟩=some (.string (tx i))
theorem Nds.below{w w':World}{g nn:Nat}{ki:Nat->Int}{tx:Nat->ByteArray}(h:Nds w g nn ki tx)(hB:Below w.heap.size w w'):Nds w' g nn ki tx:=⟨Nat.lt_of_lt_of_le h.1 hB.size,λi hi=>⟨(hB.cell (p:=⟨g,_,none⟩) h.1).trans (h.2 i hi).1,(hB.cell (p:=⟨g,_,none⟩) h.1).trans (h.2 i hi).2⟩⟩
def Oz(w:World)(o:Option Addr)(xs:List Int):Prop:=∀ (j:Nat) (x:Int),xs[j]? = some x->∃g,o=some ⟨g,0,none⟩/\g<w.heap.size/\w.cell? ⟨g,j,none⟩=some (.int .i64 x)
theorem Oz.below{w w':World}{o:Option Addr}{xs:List Int}(h:Oz w o xs)(hB:Below w.heap.size w w'):Oz w' o xs:=λj x hx=>by
 obtain⟨g,e,h1,h2⟩:=h j x hx
 exact⟨g,e,Nat.lt_of_lt_of_le h1 hB.size,(hB.cell (p:=⟨g,_,none⟩) h1).trans h2⟩
def five(l:List UInt8):Bool:=l==[38]||l==[124]||l==[94]||l==[60,60]||l==[62,62]
def opC(c:Nat):Prop:=c=43\/c=45\/c=42\/c=47\/c=37\/c=60\/c=62\/c=61\/c=33
section
variable (s:ByteArray) (hs:s.size<=6000) (nn:Nat) (hnn:nn<=100000) (ki:Nat->Int) (tx:Nat->ByteArray) (cnt:Nat->Nat) (hc0:cnt 0=0) (hc1:∀ i,i < nn->cnt (i + 1)=cnt i + (if (ki i == 21)=true/\five (tx i).toList=false then 1 else 0)) (hcb:∀ i,cnt i<=i)
 (xs:List Int) (hxl:xs.length<=100000) (hfin:cnt nn=xs.length)
 (hxs:∀ (j:Nat) (x:Int),xs[j]? = some x->∃k:Nat,x=(k:Int)/\∃h:k<s.size,opC s[k].toNat) (hrise:∀ (i:Nat) (a b:Int),xs[i]? = some a->xs[i+1]? = some b->a<b)
 (w:World) (J:World->Nat->Nat->Prop) (hJ:∀w1 g cap,J w1 g cap->Nds w1 g nn ki tx) (hJb:∀w1 w2 g cap,J w1 g cap->Below w1.heap.size w1 w2->J w2 g cap)
 (cA:Calls prog 7 #[.string s] w λe w'=>∃g cap,e=.returned (.tuple #[.slice (some ⟨g,0,none⟩) nn cap,.agg #[.int .i64 0,.int .i64 0]])/\Below w.heap.size w w'/\J w' g cap)
 (cS:∀w1 g cap,Below w.heap.size w w1->J w1 g cap->Calls prog 18 #[.slice (some ⟨g,0,none⟩) nn cap] w1 λe w'=>∃o cp,e=.returned (.slice o xs.length cp)/\Below w1.heap.size w1 w'/\Oz w' o xs)
 (cW:∀w1,Below w.heap.size w w1->Calls prog 10 #[] w1 λe w'=>e=.returned (.bool true)/\Below w1.heap.size w1 w')
include hs hnn hc0 hc1 hcb hxl hfin hxs hrise hJ hJb cA cS cW
end
theorem hsx{W:World}{b:Nat}{c:List Value}{t:TypeId}(hb:W.heap[b]? = some (.cells c.toArray t (0,0)))(j:Nat)(u:Value):(W.setCell ⟨b,j,none⟩ u).heap[b]? = some (.cells (c.set j u).toArray t (0,0)):=by
 simp only[z1z,Array.getElem?_modify]
 rw[hb]
 simp
theorem set_pair{w a:World}{g B:Nat}{z0 z1:Value}{t:TypeId}(hg:w.heap[g]? = some (.cells #[z0,z1] t (0,0)))(hB:Below B a w)(hb:B<=g)(v0 v1:Value) :
  ((w.setCell ⟨g,0,none⟩ v0).setCell ⟨g,1,none⟩ v1).heap[g]? = some (.cells #[v0,v1] t (0,0))/\Below B a ((w.setCell ⟨g,0,none⟩ v0).setCell ⟨g,1,none⟩ v1):=by
 have h0:w.heap[g]? = some (.cells [z0,z1].toArray t (0,0)):=hg
 exact⟨hsx (hsx h0 0 v0) 1 v1,(hB.setCell (p:=⟨g,0,none⟩) hb v0).setCell (p:=⟨g,1,none⟩) hb v1⟩
theorem set_one{w a:World}{k g B:Nat}{o:Obj}{z0 z1:Value}{t:TypeId}(hk:w.heap[k]? = some o)(hg:w.heap[g]? = some (.cells #[z0,z1] t (0,0)))(hne:k≠g)(hB:Below B a w)(hb:B<=g)(v0 v1:Value) :
  ((w.setCell ⟨g,0,none⟩ v0).setCell ⟨g,1,none⟩ v1).heap[g]? = some (.cells #[v0,v1] t (0,0))/\((w.setCell ⟨g,0,none⟩ v0).setCell ⟨g,1,none⟩ v1).heap[k]? = some o/\Below B a ((w.setCell ⟨g,0,none⟩ v0).setCell ⟨g,1,none⟩ v1):=by
 have h0:w.heap[g]? = some (.cells [z0,z1].toArray t (0,0)):=hg
 refine⟨hsx (hsx h0 0 v0) 1 v1,?_,(hB.setCell (p:=⟨g,0,none⟩) hb v0).setCell (p:=⟨g,1,none⟩) hb v1⟩
 rw[Below.heap_setCell _ _ _ _ hne,Below.heap_setCell _ _ _ _ hne,hk]
theorem set_both{w a:World}{k g B:Nat}{z0 z1 v0 v1:Value}{t u:TypeId}(hk:w.heap[k]? = some (.cells #[v0,v1] u (0,0)))(hg:w.heap[g]? = some (.cells #[z0,z1] t (0,0)))(hne:k≠g)(hB:Below B a w)(hb:B<=g) :
  ((w.setCell ⟨g,0,none⟩ v0).setCell ⟨g,1,none⟩ v1).heap[g]? = some (.cells #[v0,v1] t (0,0))/\((w.setCell ⟨g,0,none⟩ v0).setCell ⟨g,1,none⟩ v1).heap[k]? = some (.cells #[v0,v1] u (0,0))/\Below B a ((w.setCell ⟨g,0,none⟩ v0).setCell ⟨g,1,none⟩ v1):=set_one hk hg hne hB hb v0 v1
theorem Po(nn:Nat)(hnn:nn<=100000)(ki:Nat->Int)(tx:Nat->ByteArray)(g cap:Nat)(w:World)(hJ:Nds w g nn ki tx) :
  Calls prog 11 #[.slice (some ⟨g,0,none⟩) nn cap] w λe w'=>∃b,e=.returned (.bool b)/\Below w.heap.size w w'/\(b=false->∀i,i<nn->((tx i).toList==[122,121])=false/\((tx i).toList==[122,122,122])=false):=by
 have HNN:=hd hnn
 have HJ:=hd hJ
 clear hnn hJ
 go_enter func11,ntmps11
 go_wp2
 go_loopw [3] (λii wr=>∃i:Nat,ii=.int .i64 (i:Nat)/\i<=nn/\(∀j,j<i->((tx j).toList==[122,121])=false/\((tx j).toList==[122,122,122])=false)/\Below w.heap.size w wr) (λii _=>nn-(intOf ii).toNat)
 case atStart=>exact⟨0,rfl,Nat.zero_le _,λj hj=>absurd hj (Nat.not_lt_zero _),z7z _ _⟩
 case round=>
  obtain⟨i,rfl,hi,hlt,hB⟩:=hrel
  have HB:=hd hB
  have HLT:=hd hlt
  clear hlt
  have hnn:=HNN.out
  by_cases hin:i<nn
  ·obtain⟨c0,c3⟩:=(HJ.out.below hB).2 i hin
   have m1:((i:Nat):Int)<nn:=by omega
   have m0:(0:Int)<=(i:Nat):=by omega
   have HM:=hd (show nn-(intOf (.int .i64 ((i:Int)+1))).toNat<nn-(intOf (.int .i64 (i:Int))).toNat by show nn-((i:Int)+1).toNat<nn-((i:Int)).toNat;omega)
   have wk:z5z.wrap ((i:Int)+1)=(i:Int)+1:=wri _ (up1 hnn hi).1 (up1 hnn hi).2
   have wk':wrap64 ((i:Int)+1)=(i:Int)+1:=wr6 _ (up1 hnn hi).1 (up1 hnn hi).2
   have HIN:=hd hin
   clear hin hi hB hnn c0
   generalize htq:tx i=tq at *
   have HTQ:=hd htq
   clear htq
   cases h1:(tq.toList==[122,121]) with
   | true=>
    go_wp2
    go_ret
    exact⟨true,rfl,HB.out,λe=>by cases e⟩
   | false=>
    cases h2:(tq.toList==[122,122,122]) with
    | true=>
     go_wp2
     go_ret
     exact⟨true,rfl,HB.out,λe=>by cases e⟩
    | false=>
     go_wp2
     exact⟨⟨i+1,rfl,HIN.out,λj hj=>(by rcases Nat.lt_succ_iff_lt_or_eq.1 hj with hj|rfl;exact HLT.out j hj;rw[HTQ.out];exact⟨h1,h2⟩),HB.out⟩,HM.out⟩
  ·obtain rfl:i=nn:=by omega
   clear hi hB hnn
   go_wp2
   go_ret
   exact⟨false,rfl,HB.out,λ_=>HLT.out⟩
theorem cb_long(s:ByteArray)(kd:Int)(hs:5000<s.size)(w:World):Calls prog 4 #[.string s,.int .i64 kd] w λe w'=>e=.returned (.bool true)/\Below w.heap.size w w':=by
 have j1:((s.size:Nat):Int)>5000:=by omega
 clear hs
 go_enter func4,ntmps4
 go_wp2
 go_ret
 exact⟨rfl,z7z _ _⟩
theorem cb_bad(s:ByteArray)(kd:Int)(hs:s.size<=5000)(x y:Int)(hx:(x != 0)=true)(w:World)(cA:Calls prog 7 #[.string s] w λe w'=>e=.returned (.tuple #[.slice none 0 0,.agg #[.int .i64 x,.int .i64 y]])/\Below w.heap.size w w')
  (cW:∀w1,Below w.heap.size w w1->Calls prog 10 #[] w1 λe w'=>e=.returned (.bool true)/\Below w1.heap.size w1 w'):Calls prog 4 #[.string s,.int .i64 kd] w λe w'=>e=.returned (.bool true)/\Below w.heap.size w w':=by
 have j1:¬ ((s.size:Nat):Int)>5000:=by omega
 clear hs
 go_enter func4,ntmps4
 go_wp2_with (first|(go_at_call 7;(with_reducible refine cA.mono ?_);rintro e w2 ⟨rfl,hB2⟩;(have b3:=hB2.alloc hB2.size (.cells #[.int .i64 x,.int .i64 y] 26));(have cW:=cW _ b3);(have HB3:=hd b3);clear hB2 cA b3)|(go_at_call 10;(with_reducible refine cW.mono ?_);rintro e w6 ⟨rfl,hB6⟩;(have HB6:=hd (HB3.out.trans (hB6.mono HB3.out.size)));clear hB6 cW))
 go_ret
 exact⟨rfl,HB6.out⟩
section
variable (s:ByteArray) (kd:Int) (hs:s.size<=5000) (nn:Nat) (hnn:nn<=100000) (ki:Nat->Int) (tx:Nat->ByteArray)
 (w:World) (J:World->Nat->Nat->Prop) (hJ:∀w1 g cap,J w1 g cap->Nds w1 g nn ki tx) (hJb:∀w1 w2 g cap,J w1 g cap->Below w1.heap.size w1 w2->J w2 g cap)
 (cA:Calls prog 7 #[.string s] w λe w'=>∃g cap,e=.returned (.tuple #[.slice (some ⟨g,0,none⟩) nn cap,.agg #[.int .i64 0,.int .i64 0]])/\Below w.heap.size w w'/\J w' g cap)
 (cM:(∀i,i<nn->((tx i).toList==[122,121])=false/\((tx i).toList==[122,122,122])=false)->∀w1,Below w.heap.size w w1->Calls prog 7 #[.string (s++⟨#[10,102,110,32,122,122,122,40,122,122,41,32,123,32,114,101,116,117,114,110,32,122,122,59,32,125]⟩)] w1 λe w'=>∃o cap,e=.returned (.tuple #[.slice o (nn+5) cap,.agg #[.int .i64 0,.int .i64 0]])/\Below w1.heap.size w1 w')
 (cV:(∀i,i<nn->((tx i).toList==[122,121])=false/\((tx i).toList==[122,122,122])=false)->∀ (B:ByteArray) (x y:Int),(B=⟨#[10,102,110,32,122,122,122,40,122,122,41,32,123,32,114,101,116,117,114,110,32,122,121,59,32,125]⟩/\x=63/\y=21\/B=⟨#[10,102,110,32,122,122,122,40,122,122,44,32,122,122,41,32,123,32,125]⟩/\x=80/\y=12\/B=⟨#[10,102,110,32,122,122,122,40,122,122,41,32,123,32,98,114,101,97,107,59,32,125]⟩/\x=82/\y=14\/B=⟨#[10,102,110,32,122,122,122,40,122,122,41,32,123,32,122,122,122,40,41,59,32,125]⟩/\x=81/\y=14) ->
  ∀w1,Below w.heap.size w w1->Calls prog 7 #[.string (s++B)] w1 λe w'=>e=.returned (.tuple #[.slice none 0 0,.agg #[.int .i64 x,.int .i64 ((s.size:Nat)+y)]])/\Below w1.heap.size w1 w')
 (cW:∀w1,Below w.heap.size w w1->Calls prog 10 #[] w1 λe w'=>e=.returned (.bool true)/\Below w1.heap.size w1 w')
include hs hnn hJ hJb cA cM cV cW
theorem cb_good:Calls prog 4 #[.string s,.int .i64 kd] w λe w'=>e=.returned (.bool true)/\Below w.heap.size w w':=by
 have j1:¬ ((s.size:Nat):Int)>5000:=by omega
 have HS:=hd hs
 have HNN:=hd hnn
 have HJ:=hd (z8z hJ hJb)
 have CM:=hd cM
 have CV:=hd cV
 have CW:=hd cW
 clear hs hnn hJ hJb cM cV cW
 go_enter func4,ntmps4
 go_upto_region 4 with(go_at_call 7;(with_reducible refine cA.mono ?_);rintro e w1 ⟨g,cap,rfl,hB1,hN1⟩;(have HB1:=hd hB1);(have HN1:=hd hN1);clear cA hB1 hN1)
 have b1:Below w1.heap.size w1 (w1.alloc (.cells #[.int .i64 0,.int .i64 0] 26)):=(z7z _ w1).alloc (z0z _) _
 have d1:=z14z w1 (.cells #[.int .i64 0,.int .i64 0] 26)
 have bb1:=HB1.out.trans (b1.mono HB1.out.size)
 have n1:=HJ.out.2 _ _ _ _ HN1.out b1
 have cN:=Po nn HNN.out ki tx g cap _ (HJ.out.1 _ _ _ n1)
 have e0:=cell_of_row _ _ 0 _ _ _ d1
 simp only[List.getElem?_toArray,List.getElem?_cons_zero,z11z] at e0
 have HB2:=hd bb1
 clear b1 d1 bb1 n1 HB1 HN1
 generalize hk1:w1.heap.size=k1 at *
 generalize w1.alloc (.cells #[.int .i64 0,.int .i64 0] 26)=W1 at *
 clear hk1
 go_upto_region 7 with(go_at_call 11;(with_reducible refine cN.mono ?_);rintro e w3 ⟨b,rfl,hB3,hb⟩;(have HB3:=hd (HB2.out.trans (hB3.mono HB2.out.size)));(have HNB:=hd hb);clear cN hB3 hb e0)
 ·go_wp2
  go_ret
  exact⟨rfl,HB3.out⟩
 have hF:=HNB.out (by assumption)
 have cm:=CM.out hF _ HB3.out
 have HCV:=hd (CV.out hF)
 clear CM CV hF HNB HB2
 go_upto_region 10 with(go_at_call 7;(with_reducible refine cm.mono ?_);rintro e w4 ⟨o,cp,rfl,hB4⟩;(have HB4:=hd (HB3.out.trans (hB4.mono HB3.out.size)));clear hB4 cm)
 have d4:=z14z w4 (.cells #[.int .i64 0,.int .i64 0] 26)
 have b4:Below w4.heap.size w4 (w4.alloc (.cells #[.int .i64 0,.int .i64 0] 26)):=(z7z _ w4).alloc (z0z _) _
 have HB5:=hd (HB4.out.trans (b4.mono HB4.out.size))
 have z4:(w4.alloc (.cells #[.int .i64 0,.int .i64 0] 26)).heap.size=w4.heap.size+1:=World.size_alloc ..
 have e0:=cell_of_row _ _ 0 _ _ _ d4
 simp only[List.getElem?_toArray,List.getElem?_cons_zero,z11z] at e0
 have l4:=HB4.out.size
 generalize w4.alloc (.cells #[.int .i64 0,.int .i64 0] 26)=W4 at *
 generalize w4.heap.size=k4 at *
 have D4:=hd (z8z d4 (z8z z4 l4))
 have wk:z5z.wrap ((nn:Int)+5)=(nn:Int)+5:=wri _ (by have:=HNN.out;omega) (by have:=HNN.out;omega)
 have w21:z5z.wrap ((s.size:Int)+21)=(s.size:Int)+21:=wri _ (by omega) (by have:=HS.out;omega)
 have w12:z5z.wrap ((s.size:Int)+12)=(s.size:Int)+12:=wri _ (by omega) (by have:=HS.out;omega)
 have w14:z5z.wrap ((s.size:Int)+14)=(s.size:Int)+14:=wri _ (by omega) (by have:=HS.out;omega)
 have d5:=z14z W4 (.cells #[.int .i64 63,.int .i64 ((s.size:Int)+21)] 26)
 have b5:Below W4.heap.size W4 (W4.alloc (.cells #[.int .i64 63,.int .i64 ((s.size:Int)+21)] 26)):=(z7z _ W4).alloc (z0z _) _
 have z5:(W4.alloc (.cells #[.int .i64 63,.int .i64 ((s.size:Int)+21)] 26)).heap.size=W4.heap.size+1:=World.size_alloc ..
 have HB6:=hd (HB5.out.trans (b5.mono HB5.out.size))
 have f5:=(b5.block k4 (by omega)).trans d4
 have K5:=hd (z8z l4 (z8z (show k4<W4.heap.size by omega) z5))
 clear d4 b5 b4 z4 z5 l4
 go_upto_region 16 with fail
 generalize W4.alloc (.cells #[.int .i64 63,.int .i64 ((s.size:Int)+21)] 26)=W5 at *
 generalize W4.heap.size=k5 at *
 have e5:=λj=>cell_of_row _ _ j _ _ _ d5
 have t5:∀j,W5.frozen? ⟨k5,j,none⟩=false:=λj=>by simp only[z9z,d5];simp
 have D5:=hd d5
 have F5:=hd f5
 clear e0 d5 f5 w21 wk HB3 HB4 HB5
 generalize bits .and .i64 kd 3=K at *
 have h5:=K5.out
 by_cases h1:K=1
 ·go_upto_region 22 with fail
  have cq:=HCV.out _ _ _ (.inr (.inl ⟨rfl,rfl,rfl⟩))
  obtain⟨f11,f9,b7⟩:=set_one F5.out D5.out (by omega) HB6.out (by omega) (.int .i64 80) (.int .i64 ((s.size:Int)+12))
  generalize hW6:z1z (z1z W5 _ _) _ _=W6 at f11 f9 b7 ⊢
  clear hW6
  (clear HCV e5 t5 D5 F5 HB6 w12 w14 K5;(have cq:=cq _ b7);(have HB7:=hd b7);(have F11:=hd f11);(have F9:=hd f9);(have H5:=hd h5);clear f11 f9 b7 h5;go_upto_region 23 with(go_at_call 7;(with_reducible refine cq.mono ?_);rintro e w8 ⟨rfl,hB8⟩;(have f8:=(hB8.block _ (z3z.1 F9.out).1).trans F9.out);(have g8:=(hB8.block _ (z3z.1 F11.out).1).trans F11.out);(have e8:=λj=>cell_of_row _ _ j _ _ _ f8);(have t8:∀j,w8.frozen? ⟨k4,j,none⟩=false:=λj=>by simp only[z9z,f8];simp);(have HB8:=hd (HB7.out.trans (hB8.mono HB7.out.size)));(have F8:=hd f8);(have G8:=hd g8);clear cq hB8 f8 g8);(have h5:=H5.out);(obtain⟨f9,f11,b9⟩:=set_both G8.out F8.out (by omega) HB8.out h5.1);clear e8 t8 F8 G8 HB8 h5 H5 F9 F11 HB7;generalize hW9:z1z (z1z w8 _ _) _ _=W9 at f9 f11 b9 ⊢;clear hW9;(have e9:=λj=>cell_of_row _ _ j _ _ _ f9);(have e11:=λj=>cell_of_row _ _ j _ _ _ f11);(have cw:=CW.out _ b9);(have HB9:=hd b9);clear b9 f9 f11 CW;go_wp2_with (go_at_call 10;(with_reducible refine cw.mono ?_);rintro e w10 ⟨rfl,hB10⟩;(have HB10:=hd (HB9.out.trans (hB10.mono HB9.out.size)));clear hB10 cw);go_ret;exact⟨rfl,HB10.out⟩)
 by_cases h2:K=2
 ·go_upto_region 22 with fail
  have cq:=HCV.out _ _ _ (.inr (.inr (.inl ⟨rfl,rfl,rfl⟩)))
  obtain⟨f11,f9,b7⟩:=set_one F5.out D5.out (by omega) HB6.out (by omega) (.int .i64 82) (.int .i64 ((s.size:Int)+14))
  generalize hW6:z1z (z1z W5 _ _) _ _=W6 at f11 f9 b7 ⊢
  clear hW6
  (clear HCV e5 t5 D5 F5 HB6 w12 w14 K5;(have cq:=cq _ b7);(have HB7:=hd b7);(have F11:=hd f11);(have F9:=hd f9);(have H5:=hd h5);clear f11 f9 b7 h5;go_upto_region 23 with(go_at_call 7;(with_reducible refine cq.mono ?_);rintro e w8 ⟨rfl,hB8⟩;(have f8:=(hB8.block _ (z3z.1 F9.out).1).trans F9.out);(have g8:=(hB8.block _ (z3z.1 F11.out).1).trans F11.out);(have e8:=λj=>cell_of_row _ _ j _ _ _ f8);(have t8:∀j,w8.frozen? ⟨k4,j,none⟩=false:=λj=>by simp only[z9z,f8];simp);(have HB8:=hd (HB7.out.trans (hB8.mono HB7.out.size)));(have F8:=hd f8);(have G8:=hd g8);clear cq hB8 f8 g8);(have h5:=H5.out);(obtain⟨f9,f11,b9⟩:=set_both G8.out F8.out (by omega) HB8.out h5.1);clear e8 t8 F8 G8 HB8 h5 H5 F9 F11 HB7;generalize hW9:z1z (z1z w8 _ _) _ _=W9 at f9 f11 b9 ⊢;clear hW9;(have e9:=λj=>cell_of_row _ _ j _ _ _ f9);(have e11:=λj=>cell_of_row _ _ j _ _ _ f11);(have cw:=CW.out _ b9);(have HB9:=hd b9);clear b9 f9 f11 CW;go_wp2_with (go_at_call 10;(with_reducible refine cw.mono ?_);rintro e w10 ⟨rfl,hB10⟩;(have HB10:=hd (HB9.out.trans (hB10.mono HB9.out.size)));clear hB10 cw);go_ret;exact⟨rfl,HB10.out⟩)
 by_cases h3:K=3
 ·go_upto_region 22 with fail
  have cq:=HCV.out _ _ _ (.inr (.inr (.inr ⟨rfl,rfl,rfl⟩)))
  obtain⟨f11,f9,b7⟩:=set_one F5.out D5.out (by omega) HB6.out (by omega) (.int .i64 81) (.int .i64 ((s.size:Int)+14))
  generalize hW6:z1z (z1z W5 _ _) _ _=W6 at f11 f9 b7 ⊢
  clear hW6
  (clear HCV e5 t5 D5 F5 HB6 w12 w14 K5;(have cq:=cq _ b7);(have HB7:=hd b7);(have F11:=hd f11);(have F9:=hd f9);(have H5:=hd h5);clear f11 f9 b7 h5;go_upto_region 23 with(go_at_call 7;(with_reducible refine cq.mono ?_);rintro e w8 ⟨rfl,hB8⟩;(have f8:=(hB8.block _ (z3z.1 F9.out).1).trans F9.out);(have g8:=(hB8.block _ (z3z.1 F11.out).1).trans F11.out);(have e8:=λj=>cell_of_row _ _ j _ _ _ f8);(have t8:∀j,w8.frozen? ⟨k4,j,none⟩=false:=λj=>by simp only[z9z,f8];simp);(have HB8:=hd (HB7.out.trans (hB8.mono HB7.out.size)));(have F8:=hd f8);(have G8:=hd g8);clear cq hB8 f8 g8);(have h5:=H5.out);(obtain⟨f9,f11,b9⟩:=set_both G8.out F8.out (by omega) HB8.out h5.1);clear e8 t8 F8 G8 HB8 h5 H5 F9 F11 HB7;generalize hW9:z1z (z1z w8 _ _) _ _=W9 at f9 f11 b9 ⊢;clear hW9;(have e9:=λj=>cell_of_row _ _ j _ _ _ f9);(have e11:=λj=>cell_of_row _ _ j _ _ _ f11);(have cw:=CW.out _ b9);(have HB9:=hd b9);clear b9 f9 f11 CW;go_wp2_with (go_at_call 10;(with_reducible refine cw.mono ?_);rintro e w10 ⟨rfl,hB10⟩;(have HB10:=hd (HB9.out.trans (hB10.mono HB9.out.size)));clear hB10 cw);go_ret;exact⟨rfl,HB10.out⟩)
 ·go_upto_region 22 with fail
  have cq:=HCV.out _ _ _ (.inl ⟨rfl,rfl,rfl⟩)
  have f11:=D5.out
  have f9:=F5.out
  have b7:=HB6.out
  (clear HCV e5 t5 D5 F5 HB6 w12 w14 K5;(have cq:=cq _ b7);(have HB7:=hd b7);(have F11:=hd f11);(have F9:=hd f9);(have H5:=hd h5);clear f11 f9 b7 h5;go_upto_region 23 with(go_at_call 7;(with_reducible refine cq.mono ?_);rintro e w8 ⟨rfl,hB8⟩;(have f8:=(hB8.block _ (z3z.1 F9.out).1).trans F9.out);(have g8:=(hB8.block _ (z3z.1 F11.out).1).trans F11.out);(have e8:=λj=>cell_of_row _ _ j _ _ _ f8);(have t8:∀j,w8.frozen? ⟨k4,j,none⟩=false:=λj=>by simp only[z9z,f8];simp);(have HB8:=hd (HB7.out.trans (hB8.mono HB7.out.size)));(have F8:=hd f8);(have G8:=hd g8);clear cq hB8 f8 g8);(have h5:=H5.out);(obtain⟨f9,f11,b9⟩:=set_both G8.out F8.out (by omega) HB8.out h5.1);clear e8 t8 F8 G8 HB8 h5 H5 F9 F11 HB7;generalize hW9:z1z (z1z w8 _ _) _ _=W9 at f9 f11 b9 ⊢;clear hW9;(have e9:=λj=>cell_of_row _ _ j _ _ _ f9);(have e11:=λj=>cell_of_row _ _ j _ _ _ f11);(have cw:=CW.out _ b9);(have HB9:=hd b9);clear b9 f9 f11 CW;go_wp2_with (go_at_call 10;(with_reducible refine cw.mono ?_);rintro e w10 ⟨rfl,hB10⟩;(have HB10:=hd (HB9.out.trans (hB10.mono HB9.out.size)));clear hB10 cw);go_ret;exact⟨rfl,HB10.out⟩)
end
end Go.Proofs.YtjplieobnknnpaaGreatDoor.W.Cs
namespace Go.Proofs.YtjplieobnknnpaaGreatDoor.W.Tr
set_option linter.unusedVariables false
set_option linter.unusedSimpArgs false
def dl(t:ByteArray):Int:=(if t=OM\/t=Uj\/t=Zt then 1 else 0)-(if t=NJ\/t=dQ\/t=PK then 1 else 0)
theorem behind_o(y:Yd)(s:Cs):(behind y s).o=s.o+dl (AP y.t):=by
 unfold behind dl Gm J8
 simp only[Bool.or_eq_true,decide_eq_true_eq,or_assoc]
 omega
theorem comp_dl{t:ByteArray}(h:comp t=true):dl t=0:=by
 unfold comp at h
 simp only[Bool.or_eq_true,decide_eq_true_eq] at h
 rcases h with((((h|h)|h)|h)|h)|h <;> (rw[h];decide)
theorem tight_dl{t:ByteArray}{k:Nat}(h:tight t=k)(hk:1<=k):dl t=0:=by
 unfold tight at h
 split at h
 ·rename_i e;rw[e];decide
 split at h
 ·rename_i e;rw[e];decide
 split at h
 ·rename_i e;rw[e];decide
 split at h
 ·rename_i e;rcases e with e|e <;> (rw[e];decide)
 split at h
 ·rename_i e;rcases e with e|e <;> (rw[e];decide)
 split at h
 ·rename_i e;rcases e with e|e|e|e <;> (rw[e];decide)
 ·omega
theorem fix_dl{y:Yd}(h:AP y.t=⟨#[]⟩):dl (AP y.t)=0:=by rw[h];decide
theorem kind_dl{y:Yd}(h:y.t.kind=4\/y.t.kind=5\/y.t.kind=6\/y.t.kind=1):dl (AP y.t)=0:=by
 refine fix_dl ?_
 unfold AP
 rw[if_neg (by omega)]
theorem two_dl{t:ByteArray}(h:t=VD\/t=SX):dl t=0:=by rcases h with h|h <;> (rw[h];decide)
section
variable {s:Cs} {y:Yd}
theorem Wn.look{Q:Yd->Cs->Prop}(h:∀y,Tr.look s=.ok y->Q y s):Wp BJ s Q:=by
 intro b s2 e
 unfold BJ at e
 cases hl:Tr.look s with
 | error _=>rw[hl] at e;cases e
 | ok y=>rw[hl] at e;cases e;exact h _ hl
theorem Wn.any{Q:Yd->Cs->Prop}(h:∀y s',Tr.look s=.ok y->s'.o=s.o+dl (AP y.t)->Q y s'):Wp Bf s Q:=by
 intro b s2 e
 unfold Bf at e
 cases hl:Tr.look s with
 | error _=>rw[hl] at e;cases e
 | ok y=>rw[hl] at e;cases e;exact h _ _ hl (behind_o _ _)
theorem Wn.take(d:Int)(hl:Tr.look s=.ok y)(hd:dl (AP y.t)=d){Q:Yd->Cs->Prop}(h:∀s',s'.o=s.o+d->Q y s'):Wp Bf s Q:=
 Wn.any λz s' h1 h2=>by
  rw[hl] at h1
  cases h1
  rw[hd] at h2
  exact h s' h2
theorem Wn.want(d:Int){t:ByteArray}(hd:dl t=d){Q:Yd->Cs->Prop}(h:∀y s',s'.o=s.o+d->Q y s'):Wp (Bg t) s Q:=
 Wp.bind (Wn.look λy hl=>Wp.ite (λc=>Wn.take d hl (by rw[c];exact hd) λs' h'=>h y s' h') (λ_=>Wp.fail))
theorem Wn.name{Q:Yd->Cs->Prop}(h:∀y s',s'.o=s.o+0->Q y s'):Wp Er s Q:=
 Wp.bind (Wn.look λy hl=>Wp.ite (λc=>Wn.take 0 hl (kind_dl (.inr (.inr (.inr c)))) λs' h'=>h y s' h') (λ_=>Wp.fail))
end
def baseO:Nt->Int
 | .lsT _ _=>-1 | .blT _=>-1
 | _=>0
def preO:Nt->Cs->Prop
 | .jm _,s=>∀y,look s=.ok y->dl (AP y.t)=0
 | .bn k,_=>1<=k
 | .bnT k _,_=>1<=k
 | _,_=>True
theorem depth(n:Nat):∀ (nt:Nt) (s:Cs),preO nt s->Wp (P n nt) s (λa s'=>s'.o=s.o+baseO nt):=by
 induction n with
 | zero=>intro nt s _ a s' e;cases e
 | succ n IH=>
  intro nt s hp
  have ih:∀ (nt:Nt) (s:Cs) (Q:Fo->Cs->Prop),preO nt s->(∀a s',s'.o=s.o+baseO nt->Q a s')->Wp (P n nt) s Q:=λnt s Q hq h a s' e=>h a s' (IH nt s hq a s' e)
  have ihI:∀ (c:Prop) [Decidable c] (a b:Nt) (s:Cs) (Q:Fo->Cs->Prop),preO a s->preO b s->baseO a=baseO b->(∀x s',s'.o=s.o+baseO a->Q x s')->Wp (P n (if c then a else b)) s Q:=by
   intro c _ a b s Q ha hb he h
   split
   ·exact ih a s Q ha h
   ·exact ih b s Q hb (by rw[<- he];exact h)
  clear IH
  cases nt with
  | pl=>
   unfold P
   refine Wp.bind (ih _ _ _ trivial λf s1 h1=>?_)
   refine Wp.bind (Wp.look λz=>?_)
   cases f with
   | nil=>(repeat' (first|(with_reducible refine Wn.want 0 (by decide) ?_;intro _ _ _)|(with_reducible refine Wn.want 1 (by decide) ?_;intro _ _ _)|(with_reducible refine Wn.want (-1) (by decide) ?_;intro _ _ _)|(with_reducible refine Wn.name ?_;intro _ _ _)|(with_reducible refine Wp.bind ?_)|(with_reducible refine Wn.look ?_;intro _ _)|(with_reducible refine Wn.take 0 ‹_› (by (first|(rw[‹AP _=_›];decide)|exact comp_dl ‹_› | exact tight_dl ‹_› ‹_› | exact kind_dl (.inl ‹_›)|exact kind_dl (.inr (.inl ‹_›))|exact kind_dl (.inr (.inr (.inl ‹_›)))|exact two_dl ‹_›)) ?_;intro _ _)|(with_reducible refine Wn.take 1 ‹_› (by rw[‹AP _=_›];decide) ?_;intro _ _)|(with_reducible refine Wp.st ?_)|(with_reducible refine Wp.ite ?_ ?_ <;> intro _)|((with_reducible refine ihI _ _ _ _ _ ?_ ?_ ?_ ?_);(focus trivial);(focus trivial);(focus rfl);intro _ _ _)|((with_reducible refine ih _ _ _ ?_ ?_);(focus (first|trivial|(show 1<=_;omega)|((have q:=‹Tr.look _=Except.ok _›);(show ∀y,Tr.look _=.ok y->dl (AP y.t)=0);intro z hz;(have e:=q.symm.trans hz);cases e;rw[‹AP _=_›];decide)));intro _ _ _)|(with_reducible refine Wp.pure ?_)|(with_reducible exact Wp.fail)));clear ih ihI;(simp only[baseO,preO] at *;first|omega|(split at * <;> omega))
   | cons m ks r=>(repeat' (first|(with_reducible refine Wn.want 0 (by decide) ?_;intro _ _ _)|(with_reducible refine Wn.want 1 (by decide) ?_;intro _ _ _)|(with_reducible refine Wn.want (-1) (by decide) ?_;intro _ _ _)|(with_reducible refine Wn.name ?_;intro _ _ _)|(with_reducible refine Wp.bind ?_)|(with_reducible refine Wn.look ?_;intro _ _)|(with_reducible refine Wn.take 0 ‹_› (by (first|(rw[‹AP _=_›];decide)|exact comp_dl ‹_› | exact tight_dl ‹_› ‹_› | exact kind_dl (.inl ‹_›)|exact kind_dl (.inr (.inl ‹_›))|exact kind_dl (.inr (.inr (.inl ‹_›)))|exact two_dl ‹_›)) ?_;intro _ _)|(with_reducible refine Wn.take 1 ‹_› (by rw[‹AP _=_›];decide) ?_;intro _ _)|(with_reducible refine Wp.st ?_)|(with_reducible refine Wp.ite ?_ ?_ <;> intro _)|((with_reducible refine ihI _ _ _ _ _ ?_ ?_ ?_ ?_);(focus trivial);(focus trivial);(focus rfl);intro _ _ _)|((with_reducible refine ih _ _ _ ?_ ?_);(focus (first|trivial|(show 1<=_;omega)|((have q:=‹Tr.look _=Except.ok _›);(show ∀y,Tr.look _=.ok y->dl (AP y.t)=0);intro z hz;(have e:=q.symm.trans hz);cases e;rw[‹AP _=_›];decide)));intro _ _ _)|(with_reducible refine Wp.pure ?_)|(with_reducible exact Wp.fail))) <;> clear ih ihI <;> (simp only[baseO,preO] at *;first|omega|(split at * <;> omega))
  | lb=>
   unfold P
   (repeat' (first|(with_reducible refine Wn.want 0 (by decide) ?_;intro _ _ _)|(with_reducible refine Wn.want 1 (by decide) ?_;intro _ _ _)|(with_reducible refine Wn.want (-1) (by decide) ?_;intro _ _ _)|(with_reducible refine Wn.name ?_;intro _ _ _)|(with_reducible refine Wp.bind ?_)|(with_reducible refine Wn.look ?_;intro _ _)|(with_reducible refine Wn.take 0 ‹_› (by (first|(rw[‹AP _=_›];decide)|exact comp_dl ‹_› | exact tight_dl ‹_› ‹_› | exact kind_dl (.inl ‹_›)|exact kind_dl (.inr (.inl ‹_›))|exact kind_dl (.inr (.inr (.inl ‹_›)))|exact two_dl ‹_›)) ?_;intro _ _)|(with_reducible refine Wn.take 1 ‹_› (by rw[‹AP _=_›];decide) ?_;intro _ _)|(with_reducible refine Wp.st ?_)|(with_reducible refine Wp.ite ?_ ?_ <;> intro _)|((with_reducible refine ihI _ _ _ _ _ ?_ ?_ ?_ ?_);(focus trivial);(focus trivial);(focus rfl);intro _ _ _)|((with_reducible refine ih _ _ _ ?_ ?_);(focus (first|trivial|(show 1<=_;omega)|((have q:=‹Tr.look _=Except.ok _›);(show ∀y,Tr.look _=.ok y->dl (AP y.t)=0);intro z hz;(have e:=q.symm.trans hz);cases e;rw[‹AP _=_›];decide)));intro _ _ _)|(with_reducible refine Wp.pure ?_)|(with_reducible exact Wp.fail)))
   all_goals clear ih ihI
   all_goals (simp only[baseO,preO] at *;first|omega|(split at * <;> omega))
  | jm k=>
   unfold P
   have hp':∀y,look s=.ok y->dl (AP y.t)=0:=hp
   refine Wp.bind (Wn.any λy s1 h1 h2=>?_)
   rw[hp' y h1] at h2
   clear hp hp'
   (repeat' (first|(with_reducible refine Wn.want 0 (by decide) ?_;intro _ _ _)|(with_reducible refine Wn.want 1 (by decide) ?_;intro _ _ _)|(with_reducible refine Wn.want (-1) (by decide) ?_;intro _ _ _)|(with_reducible refine Wn.name ?_;intro _ _ _)|(with_reducible refine Wp.bind ?_)|(with_reducible refine Wn.look ?_;intro _ _)|(with_reducible refine Wn.take 0 ‹_› (by (first|(rw[‹AP _=_›];decide)|exact comp_dl ‹_› | exact tight_dl ‹_› ‹_› | exact kind_dl (.inl ‹_›)|exact kind_dl (.inr (.inl ‹_›))|exact kind_dl (.inr (.inr (.inl ‹_›)))|exact two_dl ‹_›)) ?_;intro _ _)|(with_reducible refine Wn.take 1 ‹_› (by rw[‹AP _=_›];decide) ?_;intro _ _)|(with_reducible refine Wp.st ?_)|(with_reducible refine Wp.ite ?_ ?_ <;> intro _)|((with_reducible refine ihI _ _ _ _ _ ?_ ?_ ?_ ?_);(focus trivial);(focus trivial);(focus rfl);intro _ _ _)|((with_reducible refine ih _ _ _ ?_ ?_);(focus (first|trivial|(show 1<=_;omega)|((have q:=‹Tr.look _=Except.ok _›);(show ∀y,Tr.look _=.ok y->dl (AP y.t)=0);intro z hz;(have e:=q.symm.trans hz);cases e;rw[‹AP _=_›];decide)));intro _ _ _)|(with_reducible refine Wp.pure ?_)|(with_reducible exact Wp.fail))) <;> clear ih ihI <;> (simp only[baseO,preO] at *;first|omega|(split at * <;> omega))
  | bn k=>
   have hk:1<=k:=hp
   unfold P
   (repeat' (first|(with_reducible refine Wn.want 0 (by decide) ?_;intro _ _ _)|(with_reducible refine Wn.want 1 (by decide) ?_;intro _ _ _)|(with_reducible refine Wn.want (-1) (by decide) ?_;intro _ _ _)|(with_reducible refine Wn.name ?_;intro _ _ _)|(with_reducible refine Wp.bind ?_)|(with_reducible refine Wn.look ?_;intro _ _)|(with_reducible refine Wn.take 0 ‹_› (by (first|(rw[‹AP _=_›];decide)|exact comp_dl ‹_› | exact tight_dl ‹_› ‹_› | exact kind_dl (.inl ‹_›)|exact kind_dl (.inr (.inl ‹_›))|exact kind_dl (.inr (.inr (.inl ‹_›)))|exact two_dl ‹_›)) ?_;intro _ _)|(with_reducible refine Wn.take 1 ‹_› (by rw[‹AP _=_›];decide) ?_;intro _ _)|(with_reducible refine Wp.st ?_)|(with_reducible refine Wp.ite ?_ ?_ <;> intro _)|((with_reducible refine ihI _ _ _ _ _ ?_ ?_ ?_ ?_);(focus trivial);(focus trivial);(focus rfl);intro _ _ _)|((with_reducible refine ih _ _ _ ?_ ?_);(focus (first|trivial|(show 1<=_;omega)|((have q:=‹Tr.look _=Except.ok _›);(show ∀y,Tr.look _=.ok y->dl (AP y.t)=0);intro z hz;(have e:=q.symm.trans hz);cases e;rw[‹AP _=_›];decide)));intro _ _ _)|(with_reducible refine Wp.pure ?_)|(with_reducible exact Wp.fail))) <;> clear ih ihI <;> (simp only[baseO,preO] at *;first|omega|(split at * <;> omega))
  | bnT k l=>
   have hk:1<=k:=hp
   unfold P
   (repeat' (first|(with_reducible refine Wn.want 0 (by decide) ?_;intro _ _ _)|(with_reducible refine Wn.want 1 (by decide) ?_;intro _ _ _)|(with_reducible refine Wn.want (-1) (by decide) ?_;intro _ _ _)|(with_reducible refine Wn.name ?_;intro _ _ _)|(with_reducible refine Wp.bind ?_)|(with_reducible refine Wn.look ?_;intro _ _)|(with_reducible refine Wn.take 0 ‹_› (by (first|(rw[‹AP _=_›];decide)|exact comp_dl ‹_› | exact tight_dl ‹_› ‹_› | exact kind_dl (.inl ‹_›)|exact kind_dl (.inr (.inl ‹_›))|exact kind_dl (.inr (.inr (.inl ‹_›)))|exact two_dl ‹_›)) ?_;intro _ _)|(with_reducible refine Wn.take 1 ‹_› (by rw[‹AP _=_›];decide) ?_;intro _ _)|(with_reducible refine Wp.st ?_)|(with_reducible refine Wp.ite ?_ ?_ <;> intro _)|((with_reducible refine ihI _ _ _ _ _ ?_ ?_ ?_ ?_);(focus trivial);(focus trivial);(focus rfl);intro _ _ _)|((with_reducible refine ih _ _ _ ?_ ?_);(focus (first|trivial|(show 1<=_;omega)|((have q:=‹Tr.look _=Except.ok _›);(show ∀y,Tr.look _=.ok y->dl (AP y.t)=0);intro z hz;(have e:=q.symm.trans hz);cases e;rw[‹AP _=_›];decide)));intro _ _ _)|(with_reducible refine Wp.pure ?_)|(with_reducible exact Wp.fail))) <;> clear ih ihI <;> (simp only[baseO,preO] at *;first|omega|(split at * <;> omega))
  | _=>
   unfold P
   (repeat' (first|(with_reducible refine Wn.want 0 (by decide) ?_;intro _ _ _)|(with_reducible refine Wn.want 1 (by decide) ?_;intro _ _ _)|(with_reducible refine Wn.want (-1) (by decide) ?_;intro _ _ _)|(with_reducible refine Wn.name ?_;intro _ _ _)|(with_reducible refine Wp.bind ?_)|(with_reducible refine Wn.look ?_;intro _ _)|(with_reducible refine Wn.take 0 ‹_› (by (first|(rw[‹AP _=_›];decide)|exact comp_dl ‹_› | exact tight_dl ‹_› ‹_› | exact kind_dl (.inl ‹_›)|exact kind_dl (.inr (.inl ‹_›))|exact kind_dl (.inr (.inr (.inl ‹_›)))|exact two_dl ‹_›)) ?_;intro _ _)|(with_reducible refine Wn.take 1 ‹_› (by rw[‹AP _=_›];decide) ?_;intro _ _)|(with_reducible refine Wp.st ?_)|(with_reducible refine Wp.ite ?_ ?_ <;> intro _)|((with_reducible refine ihI _ _ _ _ _ ?_ ?_ ?_ ?_);(focus trivial);(focus trivial);(focus rfl);intro _ _ _)|((with_reducible refine ih _ _ _ ?_ ?_);(focus (first|trivial|(show 1<=_;omega)|((have q:=‹Tr.look _=Except.ok _›);(show ∀y,Tr.look _=.ok y->dl (AP y.t)=0);intro z hz;(have e:=q.symm.trans hz);cases e;rw[‹AP _=_›];decide)));intro _ _ _)|(with_reducible refine Wp.pure ?_)|(with_reducible exact Wp.fail))) <;> clear ih ihI <;> (simp only[baseO,preO] at *;first|omega|(split at * <;> omega))
end Go.Proofs.YtjplieobnknnpaaGreatDoor.W.Tr
namespace Go.Proofs.YtjplieobnknnpaaGreatDoor.W
set_option linter.unusedVariables false
def K7(p:Pc):Prop:=p.t.kind≠7
theorem k7_no:K7 Cg:=by unfold K7;decide
theorem k7_bad(n:Nat)(c:Int):K7 (DF n c):=by show (0:Int)≠7;decide
theorem k7_or{a b:Pc}(ha:K7 a)(hb:K7 b):K7 (DI a b):=by
 unfold DI
 split
 ·exact hb
 ·exact ha
theorem k7_quote:∀ (f:Nat) (r:List UInt8) (k:Nat) (acc:List UInt8),K7 (Cc f r k acc)
 | 0,r,k,acc=>by unfold Cc;exact k7_bad _ _
 | f+1,[],k,acc=>by rw[Lg];exact k7_bad _ _
 | f+1,c::q,k,acc=>by
  by_cases c1:c=34
  ·rw[Js (f+1) k c q acc (by omega) c1]
   show (6:Int)≠7
   decide
  ·by_cases c2:(Ar (c::q)).2=0
   ·rw[J7 (f+1) k c q acc (by omega) c1 c2]
    exact k7_bad _ _
   ·rw[Jv f k c q acc c1 c2]
    exact k7_quote f _ _ _
theorem piece_kind(r:List UInt8):K7 (AQ r):=by
 unfold AQ
 refine k7_or (show (0:Int)≠7 by decide) (k7_or ?_ (k7_or ?_ (k7_or ?_ (k7_or ?_ ?_))))
 ·unfold nameP
  split
  ·exact k7_no
  ·split
   ·exact k7_bad _ _
   ·unfold Aj K7 Gf
    dsimp only
    split
    ·show (5:Int)≠7;decide
    ·split
     ·show (5:Int)≠7;decide
     ·split
      ·show (2:Int)≠7;decide
      ·show (1:Int)≠7;decide
 ·unfold Cj
  split
  ·split
   ·show (5:Int)≠7;decide
   ·exact k7_bad _ _
  ·exact k7_no
 ·unfold Cr
  split
  ·exact k7_no
  ·split
   ·show (4:Int)≠7;decide
   ·exact k7_bad _ _
 ·unfold DJ
  split
  ·rcases M7 (Cc r.length (r.drop 1) 1 []) with g|⟨_,g⟩
   ·rw[g]
    exact k7_quote _ _ _ _
   ·rw[g]
    exact k7_bad _ _
  ·exact k7_no
 ·unfold EI
  split
  ·show (3:Int)≠7;decide
  ·exact k7_no
theorem T_kind(n:Nat):∀ (r:List UInt8) (a:Nat) (ts:List Yd) (z:Yd),r.length<=n->T r a=ts++[z]->∀y ∈ ts,y.t.kind≠7:=by
 have one:∀ (ts:List Yd) (u z:Yd),[u]=ts++[z]->ts=[]:=by
  intro ts u z e
  have:=congrArg List.length e
  simp at this
  exact this
 induction n with
 | zero=>
  intro r a ts z hr e y hy
  have hr0:r=[]:=z15z (by omega)
  subst hr0
  rw[Qe] at e
  rw[one ts _ z e] at hy
  cases hy
 | succ n ih=>
  intro r a ts z hr e y hy
  cases r with
  | nil=>exact ih [] a ts z (by simp) e y hy
  | cons c r=>
   rw[Ju (by simp)] at e
   have hdl:¬ (AQ (c::r)).size=0->((c::r).drop (AQ (c::r)).size).length<=n:=λh=>by rw[List.length_drop];simp at hr ⊢;omega
   split at e
   ·rw[one ts _ z e] at hy
    cases hy
   ·rename_i c1
    split at e
    ·rw[one ts _ z e] at hy
     cases hy
    ·split at e
     ·cases ts with
      | nil=>cases hy
      | cons u ts=>
       rw[List.cons_append] at e
       injection e with e1 e2
       rcases z12z.1 hy with rfl|hy
       ·rw[<- e1];exact piece_kind _
       ·exact ih _ _ ts z (hdl c1) e2 y hy
     ·exact ih _ _ ts z (hdl c1) e y hy
end Go.Proofs.YtjplieobnknnpaaGreatDoor.W
namespace Go.Proofs.YtjplieobnknnpaaGreatDoor.W.Tr
set_option linter.unusedVariables false
theorem right_form(l:List UInt8)(hl:l.length<=6000){r:Fo × Cs}(h:Ends l (.ok r)):∃ts,Well (T l 0) ts (0+l.length)/\(∀y ∈ ts,y.c=0/\y.t.kind≠7)/\∃n,P n (.pg .nil) ⟨ts++[⟨Eo,((0+l.length:Nat):Int),0,0⟩],0⟩=some (.ok r):=by
 obtain⟨n,h⟩:=h
 rw[WI l (by omega)] at h
 obtain⟨ts,z,e,h2,h3⟩:=ACz l.length l 0 (z0z _)
 have hk:=T_kind l.length l 0 ts z (z0z _) e
 rw[e] at h
 have hz:z=⟨Eo,((0+l.length:Nat):Int),0,0⟩:=by
  rcases h3 with h3|h3
  ·exact h3
  ·exfalso
   obtain⟨y,hy,hy1,hy2⟩:=kG n _ _ _ h
   rcases z13z.1 hy with hy|hy
   ·exact hk y hy hy2
   ·rw[z6z.1 hy] at hy1
    exact h3.1 hy1
 rw[hz] at e h
 exact⟨ts,⟨e,λy hy=>(h2 y hy).1⟩,λy hy=>⟨(h2 y hy).1,hk y hy⟩,n,h⟩
abbrev zzz:ByteArray:=⟨#[122,122,122]⟩
abbrev zz:ByteArray:=⟨#[122,122]⟩
abbrev zy:ByteArray:=⟨#[122,121]⟩
def fnG(x:ByteArray)(k:Int):Fo:=.cons ⟨3,3+k,zzz,0,0⟩ (.cons ⟨4,7+k,zz,0,0⟩ .nil (.cons ⟨5,11+k,⟨#[]⟩,0,0⟩ (.cons ⟨15,13+k,⟨#[]⟩,0,0⟩ (.cons ⟨25,20+k,x,0,0⟩ .nil .nil) .nil) .nil)) .nil
def twG(k:Int):Fo:=.cons ⟨3,3+k,zzz,0,0⟩ (.cons ⟨4,7+k,zz,0,0⟩ .nil (.cons ⟨4,11+k,zz,0,0⟩ .nil (.cons ⟨5,15+k,⟨#[]⟩,0,0⟩ .nil .nil))) .nil
def brG(k:Int):Fo:=.cons ⟨3,3+k,zzz,0,0⟩ (.cons ⟨4,7+k,zz,0,0⟩ .nil (.cons ⟨5,11+k,⟨#[]⟩,0,0⟩ (.cons ⟨13,13+k,⟨#[]⟩,0,0⟩ .nil .nil) .nil)) .nil
def caG(k:Int):Fo:=.cons ⟨3,3+k,zzz,0,0⟩ (.cons ⟨4,7+k,zz,0,0⟩ .nil (.cons ⟨5,11+k,⟨#[]⟩,0,0⟩ (.cons ⟨17,13+k,⟨#[]⟩,0,0⟩ (.cons ⟨23,13+k,zzz,0,0⟩ .nil .nil) .nil) .nil)) .nil
theorem pg_more(e:Yd)(he:e.c=0/\e.t.kind=7)(Y:List Yd)(G:Fo)(K:Nat)(hY:∀l,∃s2,P K (.pg l) ⟨Y,0⟩=some (.ok (Fo.one ⟨1,0,⟨#[]⟩,0,0⟩ (l.app G),s2))) :
  ∀ (n:Nat) (L:List Yd) (l:Fo) (r:Fo × Cs),(∀y ∈ L,y.c=0/\y.t.kind≠7)->P n (.pg l) ⟨L++[e],0⟩=some (.ok r)->∃u,r.1=Fo.one ⟨1,0,⟨#[]⟩,0,0⟩ u/\∃m s2,P m (.pg l) ⟨L++Y,0⟩=some (.ok (Fo.one ⟨1,0,⟨#[]⟩,0,0⟩ (u.app G),s2))
 | 0,L,l,r,hL,h=>by cases h
 | n+1,[],l,r,hL,h=>by
  unfold P at h
  rcases CQ h with⟨q,h1,h2⟩|⟨y,h1,h2⟩
  ·cases h2
  ·have hye:y=e:=by
    have:=(Uq h1).2.2
    injection this with e1
    exact e1.symm
   subst hye
   rw[if_pos he.2] at h2
   have hr:=Ag h2
   obtain⟨s2,hs⟩:=hY l
   refine⟨l,?_,K,s2,hs⟩
   cases hr
   rfl
 | n+1,z::L,l,r,hL,h=>by
  have hS:Sm [e] Y ⟨z::L++[e],0⟩ ⟨z::L++Y,0⟩:=⟨z::L,rfl,rfl,rfl,hL⟩
  have hlk:=hS.look (by simp)
  unfold P at h
  rcases CQ h with⟨q,h1,h2⟩|⟨y,h1,h2⟩
  ·cases h2
  ·have hyz:y=z:=by
    have:=(Uq h1).2.2
    injection this with e1
    exact e1.symm
   subst hyz
   have hk:=(hL y (by simp)).2
   rw[if_neg hk] at h2
   rcases Af h2 with⟨q,k1,k2⟩|⟨x,s1,k1,k2⟩
   ·cases k2
   ·have hT:Tl [e] Y (P n (if AP y.t=Lh then .gl else .fu)):=by
     split
     ·exact ACw _ _ n
     ·exact AC3 _ _ n
    have ho:s1.o=0:=by
     have hd:=depth n (if AP y.t=Lh then .gl else .fu) ⟨y::L++[e],0⟩ (by split <;> trivial) x s1 k1
     have hb:baseO (if AP y.t=Lh then .gl else .fu)=0:=by split <;> rfl
     rw[hb] at hd
     simpa using hd
    obtain⟨t1,j1,L1,j2,j3,j4,j5⟩:=hT.2 _ _ x s1 hS k1 (ACy k2)
    have es:s1=⟨L1++[e],0⟩:=by rw[<- j2,<- ho]
    have et:t1=⟨L1++Y,0⟩:=by rw[<- j3,<- ho,j4]
    rw[es] at k2
    obtain⟨u,hu,m,s2,hm⟩:=pg_more e he Y G K hY n L1 (l.app x) r j5 k2
    refine⟨u,hu,max n m+1,s2,?_⟩
    unfold P
    have hl2:BJ ⟨y::L++Y,0⟩=some (.ok (y,⟨y::L++Y,0⟩)):=by unfold BJ;rw[hlk,h1]
    rw[bind_ok hl2,if_neg hk,bind_ok (Yn (Nat.le_max_left n m) _ _ _ j1),et]
    exact Yn (Nat.le_max_right n m) _ _ _ hm
theorem more_form(l:List UInt8)(hl:l.length<=6000){u:Fo}{s':Cs}(h:Ends l (.ok (.cons ⟨1,0,⟨#[]⟩,0,0⟩ u .nil,s')))(B:List UInt8)(hB:B.length<=50)(G:Fo)(K:Nat)(hY:∀k,∃s2,P K (.pg k) ⟨T B (l.length+1),0⟩=some (.ok (Fo.one ⟨1,0,⟨#[]⟩,0,0⟩ (k.app G),s2))) :
  ∃s2,Ends (l++10::B) (.ok (.cons ⟨1,0,⟨#[]⟩,0,0⟩ (u.app G) .nil,s2)):=by
 obtain⟨ts,hw,ht,n,hn⟩:=right_form l hl h
 have e:=AC1 10 l.length l B 0 ts (.inl rfl) (z0z _) hw
 rw[z2z] at e
 obtain⟨u',hu,m,s2,hm⟩:=pg_more _ ⟨rfl,rfl⟩ _ G K hY n ts .nil _ ht hn
 have e2:u'=u:=by
  injection hu with _ e1 _
  exact e1.symm
 subst e2
 refine⟨s2,m,?_⟩
 rw[WI _ (by simp;omega),e]
 exact hm
abbrev bOk:List UInt8:=[102,110,32,122,122,122,40,122,122,41,32,123,32,114,101,116,117,114,110,32,122,122,59,32,125]
abbrev bNm:List UInt8:=[102,110,32,122,122,122,40,122,122,41,32,123,32,114,101,116,117,114,110,32,122,121,59,32,125]
abbrev bTw:List UInt8:=[102,110,32,122,122,122,40,122,122,44,32,122,122,41,32,123,32,125]
abbrev bBr:List UInt8:=[102,110,32,122,122,122,40,122,122,41,32,123,32,98,114,101,97,107,59,32,125]
abbrev bCa:List UInt8:=[102,110,32,122,122,122,40,122,122,41,32,123,32,122,122,122,40,41,59,32,125]
theorem y_ok(l:Nat)(k:Fo):∃s2,P 60 (.pg k) ⟨T bOk (l+1),0⟩=some (.ok (Fo.one ⟨1,0,⟨#[]⟩,0,0⟩ (k.app (fnG zz ((l:Int)+1))),s2)):=by
 have e:=AC2 (l+1) 60 bOk 0 (by decide)
 rw[z2z] at e
 rw[e]
 exact⟨⟨[⟨Eo,25+((l+1:Nat):Int),0,0⟩],0⟩,by kernel_rfl⟩
theorem y_nm(l:Nat)(k:Fo):∃s2,P 60 (.pg k) ⟨T bNm (l+1),0⟩=some (.ok (Fo.one ⟨1,0,⟨#[]⟩,0,0⟩ (k.app (fnG zy ((l:Int)+1))),s2)):=by
 have e:=AC2 (l+1) 60 bNm 0 (by decide)
 rw[z2z] at e
 rw[e]
 exact⟨⟨[⟨Eo,25+((l+1:Nat):Int),0,0⟩],0⟩,by kernel_rfl⟩
theorem y_tw(l:Nat)(k:Fo):∃s2,P 60 (.pg k) ⟨T bTw (l+1),0⟩=some (.ok (Fo.one ⟨1,0,⟨#[]⟩,0,0⟩ (k.app (twG ((l:Int)+1))),s2)):=by
 have e:=AC2 (l+1) 60 bTw 0 (by decide)
 rw[z2z] at e
 rw[e]
 exact⟨⟨[⟨Eo,18+((l+1:Nat):Int),0,0⟩],0⟩,by kernel_rfl⟩
theorem y_br(l:Nat)(k:Fo):∃s2,P 60 (.pg k) ⟨T bBr (l+1),0⟩=some (.ok (Fo.one ⟨1,0,⟨#[]⟩,0,0⟩ (k.app (brG ((l:Int)+1))),s2)):=by
 have e:=AC2 (l+1) 60 bBr 0 (by decide)
 rw[z2z] at e
 rw[e]
 exact⟨⟨[⟨Eo,21+((l+1:Nat):Int),0,0⟩],0⟩,by kernel_rfl⟩
theorem y_ca(l:Nat)(k:Fo):∃s2,P 60 (.pg k) ⟨T bCa (l+1),0⟩=some (.ok (Fo.one ⟨1,0,⟨#[]⟩,0,0⟩ (k.app (caG ((l:Int)+1))),s2)):=by
 have e:=AC2 (l+1) 60 bCa 0 (by decide)
 rw[z2z] at e
 rw[e]
 exact⟨⟨[⟨Eo,21+((l+1:Nat):Int),0,0⟩],0⟩,by kernel_rfl⟩
section
variable {ar:ByteArray->Option Nat} {pm pm':List (ByteArray × Nat)} {L L':List (Nd × Nat)} {E E':List Nat} {R R':List (Nat × Nat)} {mr:Int} {N:Nat}
structure AsTo (L L':List (Nd × Nat)) (E E':List Nat) (R R':List (Nat × Nat)) (N:Nat):Prop where
 kind:∀i,i<N->Jl L i=Jl L' i
 text:∀i,i<N->Me L i=Me L' i
 place:∀i,i<N->KY L i=KY L' i
 ends:∀i,1<=i->i<N->IV E i=IV E' i
 regs:∀i,i<N->JR R i=JR R' i
theorem args_eq{s:ByteArray}(h:IJ pm s=IJ pm' s):Gp ar pm s=Gp ar pm' s:=by unfold Gp;rw[h]
theorem fault_eq(h:AsTo L L' E E' R R' N){c:Sc}{b:Nat}{n:Nd}{k:Nat}(hb:1<=b)(hN:b<N)(hp:IJ pm n.text=IJ pm' n.text):Ez ar pm E c b n k=Ez ar pm' E' c b n k:=by
 have e1:Ir ar pm c n=Ir ar pm' c n:=by unfold Ir;rw[args_eq hp]
 have e2:JE ar pm c n k=JE ar pm' c n k:=by unfold JE;rw[args_eq hp]
 have e3:OH E b n=OH E' b n:=by unfold OH;rw[h.ends b hb hN]
 unfold Ez
 rw[e1,e2,e3]
theorem enter_eq(h:AsTo L L' E E' R R' N){c:Sc}{b:Nat}{n:Nd}{k:Nat}(ho:∀o ∈ c.opn,o.1<N):EO L c b n k=EO L' c b n k:=by
 unfold EO
 cases hc:c.opn with
 | nil=>rfl
 | cons o r=>
  have:=ho o (by rw[hc];simp)
  simp only[h.kind _ this,h.text _ this]
theorem leave_eq(h:AsTo L L' E E' R R' N){c:Sc}(ho:∀o ∈ c.opn,o.1<N):EH L c=EH L' c:=by
 unfold EH
 cases hc:c.opn with
 | nil=>rfl
 | cons o r=>
  have:=ho o (by rw[hc];simp)
  obtain⟨a,s,l⟩:=o
  simp only at this
  simp only[h.kind _ this,h.text _ this]
theorem behind_eq(h:AsTo L L' E E' R R' N){c:Sc}{b:Nat}(hN:b<N):EZ L R mr c b=EZ L' R' mr c b:=by
 unfold EZ
 rw[h.kind b hN,h.regs b hN]
theorem goF_cong(h:AsTo L L' E E' R R' N):∀ (f:Fo) (b:Nat) (c:Sc),1<=b->b+(AJ f).length<=N->(∀o ∈ c.opn,o.1<N)->(∀p ∈ AJ f,IJ pm p.1.text=IJ pm' p.1.text)->Dq ar pm L E R mr f b c=Dq ar pm' L' E' R' mr f b c
 | .nil,b,c,hb,hN,ho,hp=>rfl
 | .cons n ks r,b,c,hb,hN,ho,hp=>by
  have hl:(AJ (.cons n ks r)).length=1+(AJ ks).length+(AJ r).length:=by simp[AJ];omega
  rw[hl] at hN
  have hbN:b<N:=by omega
  have hf:=fault_eq (ar:=ar) (pm:=pm) (pm':=pm') h (c:=c) (n:=n) (k:=ks.len) hb hbN (hp (n,ks.len) (by simp[AJ]))
  have he:=enter_eq h (c:=c) (b:=b) (n:=n) (k:=ks.len) ho
  unfold Dq
  rw[hf,he]
  split
  ·cases h1:EO L' c b n ks.len with
   | none=>rfl
   | some c1=>
    have hl1:EO L c b n ks.len=some c1:=he.trans h1
    have o1:=NY hl1
    have ho1:∀o ∈ c1.opn,o.1<N:=by
     rw[o1]
     intro o hm
     rcases z12z.1 hm with rfl|hm
     ·exact hbN
     ·exact ho o hm
    have ih:=goF_cong h ks (b+1) c1 (by omega) (by omega) ho1 (λp hm=>hp p (by simp[AJ,hm]))
    simp only
    rw[ih]
    cases h2:Dq ar pm' L' E' R' mr ks (b+1) c1 with
    | none=>rfl
    | some x=>
     cases x with
     | inl x=>rfl
     | inr c2=>
      have o2:=Li ks (b+1) c1 c2 h2
      have ho2:∀o ∈ c2.opn,o.1<N:=by rw[o2];exact ho1
      have hlv:=leave_eq h (c:=c2) ho2
      simp only
      rw[hlv]
      cases h3:EH L' c2 with
      | none=>rfl
      | some c3=>
       have o3:c3.opn=c.opn:=Ny (L:=L') (o:=(b,c.scs.length,c.lps.length)) (r:=c.opn) (by rw[o2,o1]) h3
       simp only
       rw[behind_eq h hbN,h.place b hbN]
       split
       ·exact goF_cong h r _ c3 (by omega) (by omega) (by rw[o3];exact ho) (λp hm=>hp p (by simp[AJ,hm]))
       ·rfl
  ·rfl
end
def AllQ(Q:ByteArray->Prop)(l:List (ByteArray × Nat)):Prop:=∀p ∈ l,Q p.1
theorem AllQ.nil{Q:ByteArray->Prop}:AllQ Q []:=λp hp=>by cases hp
theorem AllQ.put{Q:ByteArray->Prop}{s:ByteArray}{v:Nat}(hs:Q s):∀ {l:List (ByteArray × Nat)},AllQ Q l->AllQ Q (EM l s v)
 | [],h=>λp hp=>by
  rw[show EM [] s v=[(s,v)] from rfl,z6z] at hp
  subst hp;exact hs
 | q::l,h=>λp hp=>by
  unfold EM at hp
  split at hp
  ·rcases z12z.1 hp with rfl|hp
   ·exact hs
   ·exact h p (by simp[hp])
  ·rcases z12z.1 hp with rfl|hp
   ·exact h p (by simp)
   ·exact AllQ.put hs (λp hp=>h p (by simp[hp])) p hp
section
variable {ar:ByteArray->Option Nat} {pm:List (ByteArray × Nat)} {L:List (Nd × Nat)} {E:List Nat} {R:List (Nat × Nat)} {mr:Int} {Q:ByteArray->Prop}
structure Lv (Q:ByteArray->Prop) (c c':Sc):Prop where
 taken:AllQ Q c.taken->AllQ Q c'.taken
 lps:c'.lps.length=c.lps.length
 len:c'.scs.length=c.scs.length
 scs:∀s q,c.scs=s::q->∃s',c'.scs=s'::q/\(AllQ Q s->AllQ Q s')
theorem Lv.refl(c:Sc):Lv Q c c:=⟨id,rfl,rfl,λs q h=>⟨s,h,id⟩⟩
theorem Lv.trans{a b c:Sc}(h:Lv Q a b)(g:Lv Q b c):Lv Q a c:=⟨λk=>g.taken (h.taken k),g.lps.trans h.lps,g.len.trans h.len,λs q e=>by
 obtain⟨s1,e1,k1⟩:=h.scs s q e
 obtain⟨s2,e2,k2⟩:=g.scs s1 q e1
 exact⟨s2,e2,λk=>k2 (k1 k)⟩⟩
theorem leave_lv{c c2 c3:Sc}{b:Nat}{r:List (Nat × Nat × Nat)}(ho:c2.opn=(b,c.scs.length,c.lps.length)::r)(h:EH L c2=some c3)(ht:Q (Me L b))(htk:AllQ Q c.taken->AllQ Q c2.taken)(hl:c.lps.length<=c2.lps.length)
  {pre m:List (List (ByteArray × Nat))} (hs:c2.scs=pre++m) (hm:m.length=c.scs.length) (hq:∀s q,c.scs=s::q->∃s',m=s'::q/\(AllQ Q s->AllQ Q s')):Lv Q c c3:=by
 have hd:c2.scs.drop (c2.scs.length-c.scs.length)=m:=by
  rw[hs,z4z,hm,Nat.add_sub_cancel,List.drop_left]
 have hll:(c2.lps.drop (c2.lps.length-c.lps.length)).length=c.lps.length:=by rw[List.length_drop];omega
 unfold EH at h
 rw[ho] at h
 simp only at h
 rw[hd] at h
 split at h
 ·cases hmm:m with
  | nil=>rw[hmm] at h;cases h
  | cons t q=>
   rw[hmm] at h
   simp only[Option.some.injEq] at h
   subst h
   refine⟨htk,hll,?_,?_⟩
   ·rw[<- hm,hmm];rfl
   ·intro s q' e
    obtain⟨s',e1,k⟩:=hq s q' e
    rw[hmm] at e1
    injection e1 with e1 e2
    subst e1 e2
    exact⟨_,rfl,λa=>(k a).put ht⟩
 ·simp only[Option.some.injEq] at h
  subst h
  exact⟨htk,hll,hm,hq⟩
theorem node_lv{c c1 c2 c3:Sc}{b k:Nat}{n:Nd}(he:EO L c b n k=some c1)(hv:Lv Q c1 c2)(ho2:c2.opn=c1.opn)(h:EH L c2=some c3)(hQ:Q n.text)(htx:Me L b=n.text):Lv Q c c3:=by
 have o1:=NY he
 have ho:c2.opn=(b,c.scs.length,c.lps.length)::c.opn:=by rw[ho2,o1]
 have key:=@leave_lv L Q c c2 c3 b _ ho h (by rw[htx];exact hQ)
 have same:(AllQ Q c.taken->AllQ Q c2.taken)->c.lps.length<=c2.lps.length->c1.scs=c.scs->Lv Q c c3:=λa l e=>key a l (pre:=[]) (m:=c2.scs) rfl (by rw[hv.len,e]) (λs q es=>hv.scs s q (e.trans es))
 unfold EO at he
 simp only at he
 split at he
 ·cases he
  exact same (λa=>hv.taken (AllQ.put hQ a)) (by rw[hv.lps];exact z0z _) rfl
 split at he
 ·cases he
  obtain⟨s1,e1,_⟩:=hv.scs [] c.scs rfl
  exact key (λa=>hv.taken (AllQ.put hQ a)) (by rw[hv.lps];exact z0z _) (pre:=[s1]) (m:=c.scs) e1 rfl (λs q e=>⟨s,e,id⟩)
 split at he
 ·split at he
  ·cases he
  ·rename_i s r hs
   cases he
   obtain⟨s1,e1,k1⟩:=hv.scs _ r rfl
   refine key (λa=>hv.taken a) (by rw[hv.lps];exact z0z _) (pre:=[]) (m:=s1::r) e1 (by rw[hs];rfl) (λs' q e=>?_)
   rw[hs] at e
   injection e with e3 e4
   subst e3 e4
   exact⟨s1,rfl,λa=>k1 (AllQ.put hQ a)⟩
 split at he
 ·split at he
  ·cases he
  ·split at he
   ·cases he
    obtain⟨s1,e1,_⟩:=hv.scs [] _ rfl
    exact key (λa=>hv.taken a) (by rw[hv.lps];exact z0z _) (pre:=[s1,_]) (m:=c.scs) e1 rfl (λs q e=>⟨s,e,id⟩)
   ·cases he
    obtain⟨s1,e1,_⟩:=hv.scs [] _ rfl
    exact key (λa=>hv.taken a) (by rw[hv.lps];exact z0z _) (pre:=[s1]) (m:=c.scs) e1 rfl (λs q e=>⟨s,e,id⟩)
 split at he
 ·cases he
  exact same (λa=>hv.taken a) (by rw[hv.lps];exact Nat.le_succ _) rfl
 split at he
 ·cases he
  exact same (λa=>hv.taken a) (by rw[hv.lps];exact Nat.le_succ _) rfl
 split at he
 ·split at he
  ·cases he
  ·rename_i l r hl
   cases he
   exact same (λa=>hv.taken a) (by rw[hv.lps,hl];exact z0z _) rfl
 split at he
 ·cases he
  exact same (λa=>hv.taken a) (by rw[hv.lps];exact z0z _) rfl
 ·cases he
  exact same (λa=>hv.taken a) (by rw[hv.lps];exact z0z _) rfl
theorem goF_lv:∀ (f:Fo) (b:Nat) (c c':Sc),Df L E b f->(∀p ∈ AJ f,Q p.1.text)->Dq ar pm L E R mr f b c=some (.inr c')->Lv Q c c'
 | .nil,b,c,c',hl,hq,h=>by
  simp only[Dq,Option.some.injEq,Sum.inr.injEq] at h
  subst h
  exact Lv.refl _
 | .cons n ks r,b,c,c',hl,hq,h=>by
  unfold Dq at h
  split at h
  ·cases h1:EO L c b n ks.len with
   | none=>rw[h1] at h;cases h
   | some c1=>
    rw[h1] at h
    simp only at h
    cases h2:Dq ar pm L E R mr ks (b+1) c1 with
    | none=>rw[h2] at h;cases h
    | some x=>
     rw[h2] at h
     cases x with
     | inl x=>cases h
     | inr c2=>
      simp only at h
      cases h3:EH L c2 with
      | none=>rw[h3] at h;cases h
      | some c3=>
       rw[h3] at h
       simp only at h
       split at h
       ·have v1:=goF_lv ks (b+1) c1 c2 hl.kids (λp hm=>hq p (by simp[AJ,hm])) h2
        have htx:Me L b=n.text:=by unfold Me;rw[hl.head.1]
        have v2:=node_lv h1 v1 (Li _ _ _ _ h2) h3 (hq (n,ks.len) (by simp[AJ])) htx
        exact v2.trans (goF_lv r _ c3 c' hl.rest (λp hm=>hq p (by simp[AJ,hm])) h)
       ·cases h
  ·cases h
end
theorem endsF_app:∀ (f g:Fo) (b:Nat),Ed b (f.app g)=Ed b f++Ed (b+(AJ f).length) g
 | .nil,g,b=>by simp[Fo.app,Ed,AJ]
 | .cons n ks r,g,b=>by
  simp only[Fo.app,Ed,AJ,endsF_app r g,z10z,z4z,List.cons_append,List.append_assoc]
  rw[show b+1+(AJ ks).length+(AJ r).length=b+((AJ ks).length+(AJ r).length+1) by omega]
theorem regsAt_app:∀ (f g:Fo) (b:Nat),Gs b (f.app g)=Gs b f++Gs (b+(AJ f).length) g
 | .nil,g,b=>by simp[Fo.app,Gs,AJ]
 | .cons n ks r,g,b=>by
  simp only[Fo.app,Gs,AJ,regsAt_app r g,z10z,z4z,List.append_assoc]
  rw[show b+1+(AJ ks).length+(AJ r).length=b+((AJ ks).length+(AJ r).length+1) by omega]
theorem regsAt_ge:∀ (f:Fo) (b:Nat),∀p ∈ Gs b f,b<=p.1
 | .nil,b,p,h=>by cases h
 | .cons n ks r,b,p,h=>by
  unfold Gs at h
  rcases z13z.1 h with h|h
  ·split at h
   ·rw[z6z] at h;subst h;exact z0z _
   ·cases h
  ·have:=regsAt_ge r _ p h
   omega
theorem find_app{α:Type}(q:α->Bool):∀ (l m:List α),(∀x ∈ m,q x=false)->(l++m).find? q=l.find? q:=by
 intro l m h
 rw[List.find?_append]
 have:m.find? q=none:=List.find?_eq_none.2 (λx hx=>by rw[h x hx];simp)
 rw[this]
 simp
theorem parP_app:∀ (f g:Fo) (l:List (ByteArray × Nat)),Fg (f.app g) l=Fg g (Fg f l)
 | .nil,g,l=>rfl
 | .cons n ks r,g,l=>by
  show Fg (r.app g) _=Fg g (Fg r _)
  exact parP_app r g _
theorem globP_app:∀ (f g:Fo) (b:Nat) (l:List (ByteArray × Nat)),Fy b (f.app g) l=Fy (b+(AJ f).length) g (Fy b f l)
 | .nil,g,b,l=>by simp[Fo.app,Fy,AJ]
 | .cons n ks r,g,b,l=>by
  simp only[Fo.app,Fy,globP_app r g,AJ,z10z,z4z]
  rw[show b+1+(AJ ks).length+(AJ r).length=b+((AJ ks).length+(AJ r).length+1) by omega]
section
variable {Q:ByteArray->Prop}
theorem parP_all:∀ (f:Fo) (l:List (ByteArray × Nat)),(∀p ∈ AJ f,Q p.1.text)->AllQ Q l->AllQ Q (Fg f l)
 | .nil,l,h,a=>a
 | .cons n ks r,l,h,a=>by
  unfold Fg
  refine parP_all r _ (λp hp=>h p (by simp[AJ,hp])) ?_
  split
  ·exact a
  ·split
   ·exact a
   ·intro p hp
    rcases z13z.1 hp with hp|hp
    ·exact a p hp
    ·rw[z6z] at hp
     subst hp
     exact h (n,ks.len) (by simp[AJ])
theorem globP_all:∀ (f:Fo) (b:Nat) (l:List (ByteArray × Nat)),(∀p ∈ AJ f,Q p.1.text)->AllQ Q l->AllQ Q (Fy b f l)
 | .nil,b,l,h,a=>a
 | .cons n ks r,b,l,h,a=>by
  unfold Fy
  refine globP_all r _ _ (λp hp=>h p (by simp[AJ,hp])) ?_
  split
  ·exact a.put (h (n,ks.len) (by simp[AJ]))
  ·exact a
end
theorem getL_app(s:ByteArray):∀ (l m:List (ByteArray × Nat)),IJ (l++m) s=(match IJ l s with|some v=>some v|none=>IJ m s)
 | [],m=>rfl
 | p::l,m=>by
  show (if (s==p.1)=true then some p.2 else IJ (l++m) s)=(match (if (s==p.1)=true then some p.2 else IJ l s) with|some v=>some v|none=>IJ m s)
  split
  ·rfl
  ·exact getL_app s l m
theorem byte_eq{s t:ByteArray}(h:(s==t)=true):s.toList=t.toList:=by
 have:(s==t)=(s.toList==t.toList):=beq_toListBytes s t
 rw[this] at h
 simpa using h
theorem getL_none{s:ByteArray}:∀ {l:List (ByteArray × Nat)},AllQ (λt=>(s==t)=false) l->IJ l s=none
 | [],h=>rfl
 | p::l,h=>by
  unfold IJ
  rw[if_neg (by rw[h p (by simp)];simp)]
  exact getL_none (λq hq=>h q (by simp[hq]))
theorem hasL_none{s:ByteArray}{l:List (ByteArray × Nat)}(h:AllQ (λt=>(s==t)=false) l):DN l s=false:=by
 rw[Ub,getL_none h]
 rfl
theorem fault_pos{ar:ByteArray->Option Nat}{pm:List (ByteArray × Nat)}{L:List (Nd × Nat)}{E:List Nat}{R:List (Nat × Nat)}{mr:Int}:∀ (f:Fo) (b:Nat) (c:Sc) (x:Int × Int),Dq ar pm L E R mr f b c=some (.inl x)->x.1≠0
 | .nil,b,c,x,h=>by simp[Dq] at h
 | .cons n ks r,b,c,x,h=>by
  unfold Dq at h
  split at h
  ·cases h1:EO L c b n ks.len with
   | none=>rw[h1] at h;cases h
   | some c1=>
    rw[h1] at h
    simp only at h
    cases h2:Dq ar pm L E R mr ks (b+1) c1 with
    | none=>rw[h2] at h;cases h
    | some y=>
     rw[h2] at h
     cases y with
     | inl y=>
      simp only[Option.some.injEq,Sum.inl.injEq] at h
      subst h
      exact fault_pos ks _ _ _ h2
     | inr c2=>
      simp only at h
      cases h3:EH L c2 with
      | none=>rw[h3] at h;cases h
      | some c3=>
       rw[h3] at h
       simp only at h
       split at h
       ·exact fault_pos r _ _ _ h
       ·rename_i hb
        simp only[Option.some.injEq,Sum.inl.injEq] at h
        subst h
        exact hb
  ·rename_i hb
   simp only[Option.some.injEq,Sum.inl.injEq] at h
   subst h
   exact hb
abbrev rootN:Nd:=⟨1,0,⟨#[]⟩,0,0⟩
theorem root_go(ar:ByteArray->Option Nat)(mr:Int)(u:Fo):Jf ar mr (.cons rootN u .nil)=(match Dq ar (Fg u []) (AJ (.cons rootN u .nil)) (Ed 0 (.cons rootN u .nil)) (Gs 1 u) mr u 1 ⟨[],[(0,1,0)],[Fy 1 u []],[],[]⟩ with
  | none=>none
  | some (.inl x)=>some x
  | some (.inr _)=>some (0,0)):=by
 rw[ABs]
 have hk:Jl (AJ (.cons rootN u .nil)) 0=1:=rfl
 have hf:Ez ar (Fg u []) (Ed 0 (.cons rootN u .nil)) ⟨[],[],[Fy 1 u []],[],[]⟩ 0 rootN u.len=0:=rfl
 have he:EO (AJ (.cons rootN u .nil)) ⟨[],[],[Fy 1 u []],[],[]⟩ 0 rootN u.len=some ⟨[],[(0,1,0)],[Fy 1 u []],[],[]⟩:=rfl
 conv=>lhs;unfold Dq
 rw[hf,he,if_pos rfl]
 simp only[z2z]
 cases h:Dq ar (Fg u []) (AJ (.cons rootN u .nil)) (Ed 0 (.cons rootN u .nil)) (Gs 1 u) mr u 1 ⟨[],[(0,1,0)],[Fy 1 u []],[],[]⟩ with
 | none=>rfl
 | some x=>
  cases x with
  | inl x=>rfl
  | inr c=>
   have ho:=Li _ _ _ _ h
   simp only at ho
   have hl:∃c3,EH (AJ (.cons rootN u .nil)) c=some c3:=by
    unfold EH
    rw[ho]
    simp only[hk]
    exact⟨_,if_neg (by decide)⟩
   obtain⟨c3,hl⟩:=hl
   have hb:EZ (AJ (.cons rootN u .nil)) (Gs 1 u) mr c3 0=0:=by
    unfold EZ
    rw[hk,if_neg (by decide)]
   simp only[hl,hb,if_true,Dq]
section
variable {ar:ByteArray->Option Nat} {mr:Int} {Q:ByteArray->Prop}
theorem behind_go(u fz:Fo)(y:Int)(hz:∀p ∈ AJ fz,True)(hg:∀b l,Fy b fz l=l)(hc:Jf ar mr (.cons rootN u .nil)=some (0,y))(hQ:∀p ∈ AJ u,Q p.1.text)(hp:∀p ∈ AJ u,IJ (Fg u []) p.1.text=IJ (Fg fz (Fg u [])) p.1.text) :
  ∃c:Sc,c.opn=[(0,1,0)]/\c.lps=[]/\AllQ Q c.taken/\(∃s,c.scs=[s]/\AllQ Q s) /\
   Jf ar mr (.cons rootN (u.app fz) .nil)=(match Dq ar (Fg fz (Fg u [])) (AJ (.cons rootN (u.app fz) .nil)) (Ed 0 (.cons rootN (u.app fz) .nil)) (Gs 1 u++Gs (1+(AJ u).length) fz) mr fz (1+(AJ u).length) c with
    | none=>none
    | some (.inl x)=>some x
    | some (.inr _)=>some (0,0)):=by
 rw[root_go] at hc
 cases h:Dq ar (Fg u []) (AJ (.cons rootN u .nil)) (Ed 0 (.cons rootN u .nil)) (Gs 1 u) mr u 1 ⟨[],[(0,1,0)],[Fy 1 u []],[],[]⟩ with
 | none=>rw[h] at hc;cases hc
 | some x=>
  rw[h] at hc
  cases x with
  | inl x=>
   simp only[Option.some.injEq] at hc
   have:=fault_pos _ _ _ _ h
   rw[hc] at this
   exact absurd rfl this
  | inr c=>
   have ho:=Li _ _ _ _ h
   have hl:Df (AJ (.cons rootN u .nil)) (Ed 0 (.cons rootN u .nil)) 1 u:=by
    have:=(Nz (.cons rootN u .nil)).kids
    simpa using this
   have hv:=goF_lv (Q:=Q) u 1 _ c hl hQ h
   obtain⟨s,hs,hsq⟩:=hv.scs _ _ rfl
   have has:AsTo (AJ (.cons rootN u .nil)) (AJ (.cons rootN (u.app fz) .nil)) (Ed 0 (.cons rootN u .nil)) (Ed 0 (.cons rootN (u.app fz) .nil)) (Gs 1 u) (Gs 1 u++Gs (1+(AJ u).length) fz) (1+(AJ u).length):=by
    have key:∀i,1<=i->i<1+(AJ u).length->(AJ (.cons rootN u .nil))[i]? = (AJ (.cons rootN (u.app fz) .nil))[i]? /\ (Ed 0 (.cons rootN u .nil))[i]? = (Ed 0 (.cons rootN (u.app fz) .nil))[i]?:=by
     intro i h1 h2
     obtain⟨j,rfl⟩:∃j,i=j+1:=⟨i-1,by omega⟩
     have hj:j<(AJ u).length:=by omega
     have hj2:j<(Ed 1 u).length:=by rw[MK];exact hj
     constructor
     ·simp only[AJ,List.append_nil,z11z,Ei]
      rw[z16z hj]
     ·simp only[Ed,List.append_nil,z11z,z2z,endsF_app]
      rw[z16z hj2]
    refine⟨λi hi=>?_,λi hi=>?_,λi hi=>?_,λi h1 hi=>?_,λi hi=>?_⟩
    ·by_cases h0:i=0
     ·subst h0;rfl
     ·unfold Jl;rw[(key i (by omega) hi).1]
    ·by_cases h0:i=0
     ·subst h0;rfl
     ·unfold Me;rw[(key i (by omega) hi).1]
    ·by_cases h0:i=0
     ·subst h0;rfl
     ·unfold KY;rw[(key i (by omega) hi).1]
    ·unfold IV;rw[(key i h1 hi).2]
    ·unfold JR
     rw[find_app]
     intro x hx
     have:=regsAt_ge _ _ x hx
     simp only[beq_eq_false_iff_ne,ne_eq]
     omega
   have hcg:=goF_cong (ar:=ar) (mr:=mr) has u 1 ⟨[],[(0,1,0)],[Fy 1 u []],[],[]⟩ (z0z _) (z0z _) (λo hm=>by
    rw[z6z] at hm
    subst hm
    show 0<_
    omega) hp
   rw[h] at hcg
   refine⟨c,ho,z15z hv.lps,hv.taken AllQ.nil,⟨s,hs,hsq (globP_all u 1 [] hQ AllQ.nil)⟩,?_⟩
   rw[root_go,parP_app,regsAt_app,globP_app,hg,WW,<- hcg]
end
set_option linter.unusedSimpArgs false
theorem Df.right{L:List (Nd × Nat)}{E:List Nat}{b:Nat}{f g:Fo}(h:Df L E b (f.app g)):Df L E (b+(AJ f).length) g:=by
 intro i hi
 have:=h ((AJ f).length+i) (by rw[Ei,z4z];omega)
 rw[Ei,endsF_app,z17z (by omega),z17z (by rw[MK];omega),MK,Nat.add_sub_cancel_left,<- Nat.add_assoc] at this
 exact this
theorem kind_of{L:List (Nd × Nat)}{E:List Nat}{b:Nat}{f:Fo}(h:Df L E b f)(i:Nat){p:Nd × Nat}(hp:(AJ f)[i]? = some p):Jl L (b+i)=p.1.kind:=by
 have hi:=(List.getElem?_eq_some_iff.1 hp).1
 unfold Jl
 rw[(h i hi).1,hp]
theorem zz_eq:(zz==zz)=true:=by kernel_rfl
theorem zy_zz:(zy==zz)=false:=by kernel_rfl
section
variable {ar:ByteArray->Option Nat} {pm:List (ByteArray × Nat)} {L:List (Nd × Nat)} {E:List Nat} {R:List (Nat × Nat)} {mr:Int} {c:Sc} {s:List (ByteArray × Nat)} {N:Nat}
 (ho:c.opn=[(0,1,0)]) (hl:c.lps=[]) (hs:c.scs=[s]) (ht:DN c.taken zzz=false) (hy:DN s zy=false) (har:ar zzz=none) (hr:¬mr<(JR R N:Nat))
include ho hl hs ht har
include hr in
theorem go_ok(k:Int)(hL:Df L E N (fnG zz k)):∃c',Dq ar pm L E R mr (fnG zz k) N c=some (.inr c'):=by
 have k0:Jl L N=3:=kind_of hL 0 (p:=(⟨3,3+k,zzz,0,0⟩,2)) rfl
 have k1:Jl L (N+1)=4:=kind_of hL 1 (p:=(⟨4,7+k,zz,0,0⟩,0)) rfl
 have k2:Jl L (N+1+1)=5:=kind_of hL 2 (p:=(⟨5,11+k,⟨#[]⟩,0,0⟩,1)) rfl
 have k3:Jl L (N+1+1+1)=15:=kind_of hL 3 (p:=(⟨15,13+k,⟨#[]⟩,0,0⟩,1)) rfl
 have k4:Jl L (N+1+1+1+1)=25:=kind_of hL 4 (p:=(⟨25,20+k,zz,0,0⟩,0)) rfl
 unfold DN at ht
 unfold fnG
 simp[Dq,Ez,Gh,Ir,JE,LJ,OH,EO,EH,EZ,AJ,Fo.len,EM,DN,Ku,ho,hl,hs,ht,har,hr,zz_eq,k0,k1,k2,k3,k4]
include hy in
theorem go_name(k:Int)(hL:Df L E N (fnG zy k)):Dq ar pm L E R mr (fnG zy k) N c=some (.inl (63,20+k)):=by
 have k0:Jl L N=3:=kind_of hL 0 (p:=(⟨3,3+k,zzz,0,0⟩,2)) rfl
 have k1:Jl L (N+1)=4:=kind_of hL 1 (p:=(⟨4,7+k,zz,0,0⟩,0)) rfl
 have k2:Jl L (N+1+1)=5:=kind_of hL 2 (p:=(⟨5,11+k,⟨#[]⟩,0,0⟩,1)) rfl
 have k3:Jl L (N+1+1+1)=15:=kind_of hL 3 (p:=(⟨15,13+k,⟨#[]⟩,0,0⟩,1)) rfl
 unfold DN at ht hy
 unfold fnG
 simp[Dq,Ez,Gh,Ir,JE,LJ,OH,EO,EH,EZ,AJ,Fo.len,EM,DN,Ku,ho,hl,hs,ht,hy,har,zy_zz,k0,k1,k2,k3]
theorem go_twice(k:Int)(hL:Df L E N (twG k)):Dq ar pm L E R mr (twG k) N c=some (.inl (80,11+k)):=by
 have k0:Jl L N=3:=kind_of hL 0 (p:=(⟨3,3+k,zzz,0,0⟩,3)) rfl
 have k1:Jl L (N+1)=4:=kind_of hL 1 (p:=(⟨4,7+k,zz,0,0⟩,0)) rfl
 unfold DN at ht
 unfold twG
 simp[Dq,Ez,Gh,Ir,JE,LJ,OH,EO,EH,EZ,AJ,Fo.len,EM,DN,Ku,ho,hl,hs,ht,har,zz_eq,k0,k1]
theorem go_break(k:Int)(hL:Df L E N (brG k)):Dq ar pm L E R mr (brG k) N c=some (.inl (82,13+k)):=by
 have k0:Jl L N=3:=kind_of hL 0 (p:=(⟨3,3+k,zzz,0,0⟩,2)) rfl
 have k1:Jl L (N+1)=4:=kind_of hL 1 (p:=(⟨4,7+k,zz,0,0⟩,0)) rfl
 have k2:Jl L (N+1+1)=5:=kind_of hL 2 (p:=(⟨5,11+k,⟨#[]⟩,0,0⟩,1)) rfl
 unfold DN at ht
 unfold brG
 simp[Dq,Ez,Gh,Ir,JE,LJ,OH,EO,EH,EZ,AJ,Fo.len,EM,DN,Ku,ho,hl,hs,ht,har,zz_eq,k0,k1,k2]
theorem go_count(k:Int)(hL:Df L E N (caG k))(hp:IJ pm zzz=some 1):Dq ar pm L E R mr (caG k) N c=some (.inl (81,13+k)):=by
 have k0:Jl L N=3:=kind_of hL 0 (p:=(⟨3,3+k,zzz,0,0⟩,2)) rfl
 have k1:Jl L (N+1)=4:=kind_of hL 1 (p:=(⟨4,7+k,zz,0,0⟩,0)) rfl
 have k2:Jl L (N+1+1)=5:=kind_of hL 2 (p:=(⟨5,11+k,⟨#[]⟩,0,0⟩,1)) rfl
 have k3:Jl L (N+1+1+1)=17:=kind_of hL 3 (p:=(⟨17,13+k,⟨#[]⟩,0,0⟩,1)) rfl
 unfold DN at ht
 unfold caG
 simp[Dq,Ez,Gh,Ir,JE,LJ,OH,EO,EH,EZ,AJ,Fo.len,EM,DN,Ku,Gp,hp,ho,hl,hs,ht,har,zz_eq,k0,k1,k2,k3]
end
def Fr(t:ByteArray):Prop:=(zzz==t)=false/\(zy==t)=false/\(t==zzz)=false
theorem fr_of{t:ByteArray}(h1:(t.toList==[122,121])=false)(h2:(t.toList==[122,122,122])=false):Fr t:=by
 have e1:zzz.toList=[122,122,122]:=toList_eq zzz
 have e2:zy.toList=[122,121]:=toList_eq zy
 have k1:(zzz==t)=(zzz.toList==t.toList):=beq_toListBytes zzz t
 have k2:(zy==t)=(zy.toList==t.toList):=beq_toListBytes zy t
 have k3:(t==zzz)=(t.toList==zzz.toList):=beq_toListBytes t zzz
 rw[e1] at k1 k3
 rw[e2] at k2
 refine⟨k1.trans ?_,k2.trans ?_,k3.trans h2⟩
 ·rw[BEq.comm];exact h2
 ·rw[BEq.comm];exact h1
theorem regsAt_lt:∀ (f:Fo) (b:Nat),∀p ∈ Gs b f,p.1<b+(AJ f).length
 | .nil,b,p,h=>by cases h
 | .cons n ks r,b,p,h=>by
  unfold Gs at h
  have hl:(AJ (.cons n ks r)).length=1+(AJ ks).length+(AJ r).length:=by simp[AJ];omega
  rw[hl]
  rcases z13z.1 h with h|h
  ·split at h
   ·rw[z6z] at h;subst h;show b<_;omega
   ·cases h
  ·have:=regsAt_lt r _ p h
   omega
theorem regs_new(u g:Fo)(v:Nat)(h:Gs (1+(AJ u).length) g=[(1+(AJ u).length,v)]):JR (Gs 1 u++Gs (1+(AJ u).length) g) (1+(AJ u).length)=v:=by
 unfold JR
 rw[List.find?_append,h]
 have:(Gs 1 u).find? (λp=>p.1==1+(AJ u).length)=none:=List.find?_eq_none.2 (λx hx=>by
  have:=regsAt_lt _ _ x hx
  simp only[beq_iff_eq]
  omega)
 rw[this]
 simp
section
variable {u:Fo} {y:Int} (hc:Ld 64 u=some (0,y)) (hF:∀ p ∈ JV u,Fr p.1.text)
include hc hF
theorem ck_more(fz:Fo)(pn:Nat)(hg:∀b l,Fy b fz l=l)(hz:∀l,DN l zzz=false->Fg fz l=l++[(zzz,pn)]) :
  ∃ (c:Sc) (s:List (ByteArray × Nat)) (pm:List (ByteArray × Nat)) (L:List (Nd × Nat)) (E:List Nat),c.opn=[(0,1,0)]/\c.lps=[]/\c.scs=[s]/\DN c.taken zzz=false/\DN s zy=false/\IJ pm zzz=some pn/\Df L E (1+(AJ u).length) fz /\
   Ld 64 (u.app fz)=(match Dq Am pm L E (Gs 1 u++Gs (1+(AJ u).length) fz) 64 fz (1+(AJ u).length) c with
    | none=>none
    | some (.inl x)=>some x
    | some (.inr _)=>some (0,0)):=by
 have hF2:∀p ∈ AJ u,Fr p.1.text:=λp hp=>hF p (by unfold JV;simp[AJ,hp])
 have hp0:AllQ Fr (Fg u []):=parP_all u [] hF2 AllQ.nil
 have hn:∀ {l:List (ByteArray × Nat)},AllQ Fr l->IJ l zzz=none:=λh=>getL_none (λp hp=>(h p hp).1)
 have ny:∀ {l:List (ByteArray × Nat)},AllQ Fr l->IJ l zy=none:=λh=>getL_none (λp hp=>(h p hp).2.1)
 have hh:DN (Fg u []) zzz=false:=by rw[Ub,hn hp0];rfl
 have hpz:=hz _ hh
 obtain⟨c,ho,hl,hta,⟨s,hs,hsa⟩,he⟩:=behind_go (Q:=Fr) (ar:=Am) (mr:=64) u fz y (λ_ _=>trivial) hg hc hF2 (λp hp=>by
  rw[hpz,getL_app]
  cases IJ (Fg u []) p.1.text with
  | some v=>rfl
  | none=>
   simp only[IJ]
   rw[if_neg (by rw[(hF2 p hp).2.2];simp)])
 refine⟨c,s,_,_,_,ho,hl,hs,by rw[Ub,hn hta];rfl,by rw[Ub,ny hsa];rfl,?_,?_,he⟩
 ·rw[hpz,getL_app,hn hp0]
  simp only[IJ]
  rw[if_pos (by kernel_rfl)]
 ·have:=(Nz (.cons rootN (u.app fz) .nil)).kids
  rw[z2z] at this
  exact this.right
theorem ck_ok(k:Int):Ld 64 (u.app (fnG zz k))=some (0,0):=by
 obtain⟨c,s,pm,L,E,ho,hl,hs,ht,hy,hp,hL,he⟩:=ck_more hc hF (fnG zz k) 1 (λb l=>rfl) (λl h=>by unfold fnG;simp only[Fg,Fo.len];rw[if_neg (by decide),if_neg (by rw[h];simp)])
 obtain⟨c',h⟩:=go_ok (ar:=Am) (pm:=pm) (E:=E) (mr:=64) ho hl hs ht (by kernel_rfl) (R:=Gs 1 u++Gs (1+(AJ u).length) (fnG zz k)) (by rw[regs_new u (fnG zz k) 2 rfl];decide) k hL
 rw[he,h]
theorem ck_nm(k:Int):Ld 64 (u.app (fnG zy k))=some (63,20+k):=by
 obtain⟨c,s,pm,L,E,ho,hl,hs,ht,hy,hp,hL,he⟩:=ck_more hc hF (fnG zy k) 1 (λb l=>rfl) (λl h=>by unfold fnG;simp only[Fg,Fo.len];rw[if_neg (by decide),if_neg (by rw[h];simp)])
 rw[he,go_name ho hl hs ht hy (by kernel_rfl) k hL]
theorem ck_tw(k:Int):Ld 64 (u.app (twG k))=some (80,11+k):=by
 obtain⟨c,s,pm,L,E,ho,hl,hs,ht,hy,hp,hL,he⟩:=ck_more hc hF (twG k) 2 (λb l=>rfl) (λl h=>by unfold twG;simp only[Fg,Fo.len];rw[if_neg (by decide),if_neg (by rw[h];simp)])
 rw[he,go_twice ho hl hs ht (by kernel_rfl) k hL]
theorem ck_br(k:Int):Ld 64 (u.app (brG k))=some (82,13+k):=by
 obtain⟨c,s,pm,L,E,ho,hl,hs,ht,hy,hp,hL,he⟩:=ck_more hc hF (brG k) 1 (λb l=>rfl) (λl h=>by unfold brG;simp only[Fg,Fo.len];rw[if_neg (by decide),if_neg (by rw[h];simp)])
 rw[he,go_break ho hl hs ht (by kernel_rfl) k hL]
theorem ck_ca(k:Int):Ld 64 (u.app (caG k))=some (81,13+k):=by
 obtain⟨c,s,pm,L,E,ho,hl,hs,ht,hy,hp,hL,he⟩:=ck_more hc hF (caG k) 1 (λb l=>rfl) (λl h=>by unfold caG;simp only[Fg,Fo.len];rw[if_neg (by decide),if_neg (by rw[h];simp)])
 rw[he,go_count ho hl hs ht (by kernel_rfl) k hL hp]
end
theorem rd_more{l:List UInt8}{u:Fo}(hl:l.length<=5900)(h:Rd l u)(B:List UInt8)(hB:B.length<=50)(G:Fo)(hY:∀k,∃s2,P 60 (.pg k) ⟨T B (l.length+1),0⟩=some (.ok (Fo.one ⟨1,0,⟨#[]⟩,0,0⟩ (k.app G),s2))):Rd (l++10::B) (u.app G):=by
 obtain⟨s',he⟩:=h.ends
 obtain⟨s2,h2⟩:=more_form l (by omega) he B hB G 60 hY
 obtain⟨u',hu,hR⟩:=eG (by simp;omega) h2
 cases hu
 exact hR
end Go.Proofs.YtjplieobnknnpaaGreatDoor.W.Tr
namespace Go.Proofs.YtjplieobnknnpaaGreatDoor.W
open Go.ChangeShapes Go.WideShapes Go.ChangeAt Go.RowKit
def laid5 : List (String × DataW Unit) := [("math/bits.deBruijn32tab", Rows.laid_math_bits_deBruijn32tab), ("math/bits.deBruijn64tab", Rows.laid_math_bits_deBruijn64tab), ("internal/strconv.uint64pow10", Rows.laid_internal_strconv_uint64pow10), ("casket/ops.kindNames", Rows.laid_casket_ops_kindNames), ("casket/lex.marks", Rows.laid_casket_lex_marks)]
theorem door5(os:Os)(args:Array Value):laidMetH prog laid5 ((World.doorLaid prog 400 os).forCall (λ_ _=>0) ⟨#[],args,[]⟩).memory:=
 laidMetH_of_parts3 (fuel:=8) (laidMet_of_run' 8 (by kernel_rfl) (by kernel_rfl)) (by kernel_rfl) (by kernel_rfl)
theorem of_laid5{W:World}(h:laidMetH prog laid5 W):Tabs W/\MarksIn W:=by
 have h4 := h.filter fun x => ["math/bits.deBruijn32tab", "math/bits.deBruijn64tab", "internal/strconv.uint64pow10", "casket/lex.marks"].contains x.1
 rw [show (laid5.filter fun x => ["math/bits.deBruijn32tab", "math/bits.deBruijn64tab", "internal/strconv.uint64pow10", "casket/lex.marks"].contains x.1) = laidV by kernel_rfl] at h4
 exact of_laid h4
end Go.Proofs.YtjplieobnknnpaaGreatDoor.W
namespace Go.Proofs.YtjplieobnknnpaaGreatDoor.W.Tr
open Go.ChangeShapes Go.WideShapes Go.RowKit Go.Shelf Go.ChangeMaps Ck
set_option linter.unusedVariables false
set_option linter.unusedSimpArgs false
def kiL(L:List (Nd × Nat))(i:Nat):Int:=match L[i]? with|some p=>p.1.kind|none=>0
def txL(L:List (Nd × Nat))(i:Nat):ByteArray:=match L[i]? with|some p=>p.1.text|none=>⟨#[]⟩
theorem nds_of{w:World}{g cap:Nat}{L:List (Nd × Nat)}(h:Cw w (.slice (some ⟨g,0,none⟩) L.length cap) L):Cs.Nds w g L.length (kiL L) (txL L):=by
 obtain⟨g',cap',e,h1,h2,h3⟩:=h
 simp only[Value.slice.injEq,Option.some.injEq,Addr.mk.injEq,true_and,and_true] at e
 obtain⟨rfl,rfl⟩:=e
 refine⟨h1,λi hi=>?_⟩
 have hp:=z18z hi
 unfold kiL txL
 rw[hp]
 exact⟨h3 i _ hp 0 (by decide),h3 i _ hp 3 (by decide)⟩
theorem fr_all{L:List (Nd × Nat)}(h:∀i,i<L.length->((txL L i).toList==[122,121])=false/\((txL L i).toList==[122,122,122])=false):∀p ∈ L,Fr p.1.text:=by
 intro p hp
 obtain⟨i,hi,rfl⟩:=List.mem_iff_getElem.1 hp
 have:=h i hi
 unfold txL at this
 rw[z18z hi] at this
 exact fr_of this.1 this.2
end Go.Proofs.YtjplieobnknnpaaGreatDoor.W.Tr
namespace Go.Proofs.YtjplieobnknnpaaGreatDoor.W
set_option linter.unusedVariables false
open Go.ChangeShapes Go.WideShapes Go.RowKit Go.Shelf
theorem checkBehind_walk(src:ByteArray)(kd:Int)(w0:src.size<=maxLen)(w1:(Lit.int .i64 kd).wf=true)(w:World)(ht:Tabs w)(hm:MarksIn w):Calls prog 4 #[.string src,.int .i64 kd] w λe w'=>e=.returned (.bool true)/\Below w.heap.size w w':=by
 by_cases h:5000<src.size
 ·exact Cs.cb_long src kd h w
 have hs:src.size<=5000:=by omega
 have sl:=Ao src
 have cW:=λw1 (hB:Below w.heap.size w w1)=>Tr.AC0 w1 (ht.below hB) (hm.below hB)
 rcases Tr.ACx src (by omega) with⟨x,y,hx,hb⟩|⟨u,y,hR,hc,hg⟩
 ·exact Cs.cb_bad src kd hs x y (by simpa using hx) w (hb w ht hm) cW
 ·have hl:src.data.toList.length<=5900:=by rw[sl];omega
  have la:∀B:List UInt8,(src++⟨(10::B).toArray⟩).data.toList=src.data.toList++10::B:=λB=>by simp only[ByteArray.data_append,Array.toList_append]
  have lz:∀B:List UInt8,B.length<=50->(src++⟨(10::B).toArray⟩).size<=1000000:=λB hB=>by
   have h:=Ao (src++⟨(10::B).toArray⟩)
   rw[la,z4z,sl] at h
   rw[<- h,z10z]
   omega
  refine Cs.cb_good src kd hs (Tr.JV u).length hR.few (Tr.kiL (Tr.JV u)) (Tr.txL (Tr.JV u)) w (λw1 g cap=>Tr.Cw w1 (.slice (some ⟨g,0,none⟩) (Tr.JV u).length cap) (Tr.JV u)) (λw1 g cap hJ=>Tr.nds_of hJ) (λw1 w2 g cap hJ hB=>hJ.below hB) (hg w ht hm) ?_ ?_ cW
  ·intro hF w1 hB
   have hF:=Tr.fr_all hF
   have hR2:=Tr.rd_more hl hR Tr.bOk (by decide) _ (Tr.y_ok _)
   rw[<- la] at hR2
   have hg2:=hR2.good (lz _ (by decide)) (Tr.ck_ok hc hF _)
   refine(hg2 w1 (ht.below hB) (hm.below hB)).mono ?_
   rintro e w' ⟨g,cap,rfl,hB2,_⟩
   refine⟨some ⟨g,0,none⟩,cap,?_,hB2⟩
   have:(Tr.JV (u.app (Tr.fnG Tr.zz ((src.data.toList.length:Int)+1)))).length=(Tr.JV u).length+5:=by
    unfold Tr.JV
    simp only[Tr.AJ,Tr.Ei,z10z,z4z,Tr.fnG,List.length_nil]
    try omega
   rw[this]
  ·intro hF B x y hx w1 hB
   have hF:=Tr.fr_all hF
   rcases hx with⟨rfl,rfl,rfl⟩|⟨rfl,rfl,rfl⟩|⟨rfl,rfl,rfl⟩|⟨rfl,rfl,rfl⟩
   ·have hR2:=Tr.rd_more hl hR Tr.bNm (by decide) _ (Tr.y_nm _)
    rw[<- la] at hR2
    have hb2:=hR2.bad (lz _ (by decide)) (by decide) (Tr.ck_nm hc hF _)
    refine(hb2 w1 (ht.below hB) (hm.below hB)).mono ?_
    rintro e w' ⟨rfl,hB2⟩
    refine⟨?_,hB2⟩
    rw[sl,show (20:Int)+((src.size:Int)+1)=(src.size:Int)+21 by omega]
   ·have hR2:=Tr.rd_more hl hR Tr.bTw (by decide) _ (Tr.y_tw _)
    rw[<- la] at hR2
    have hb2:=hR2.bad (lz _ (by decide)) (by decide) (Tr.ck_tw hc hF _)
    refine(hb2 w1 (ht.below hB) (hm.below hB)).mono ?_
    rintro e w' ⟨rfl,hB2⟩
    refine⟨?_,hB2⟩
    rw[sl,show (11:Int)+((src.size:Int)+1)=(src.size:Int)+12 by omega]
   ·have hR2:=Tr.rd_more hl hR Tr.bBr (by decide) _ (Tr.y_br _)
    rw[<- la] at hR2
    have hb2:=hR2.bad (lz _ (by decide)) (by decide) (Tr.ck_br hc hF _)
    refine(hb2 w1 (ht.below hB) (hm.below hB)).mono ?_
    rintro e w' ⟨rfl,hB2⟩
    refine⟨?_,hB2⟩
    rw[sl,show (13:Int)+((src.size:Int)+1)=(src.size:Int)+14 by omega]
   ·have hR2:=Tr.rd_more hl hR Tr.bCa (by decide) _ (Tr.y_ca _)
    rw[<- la] at hR2
    have hb2:=hR2.bad (lz _ (by decide)) (by decide) (Tr.ck_ca hc hF _)
    refine(hb2 w1 (ht.below hB) (hm.below hB)).mono ?_
    rintro e w' ⟨rfl,hB2⟩
    refine⟨?_,hB2⟩
    rw[sl,show (13:Int)+((src.size:Int)+1)=(src.size:Int)+14 by omega]
end Go.Proofs.YtjplieobnknnpaaGreatDoor.W
