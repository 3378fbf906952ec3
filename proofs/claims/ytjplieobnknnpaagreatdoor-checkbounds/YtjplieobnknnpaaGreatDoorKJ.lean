import Derived.Test.YtjplieobnknnpaaGreatDoorJJ
import Derived.Maps.OwnOps
import Derived.Below
import Derived.Test.YtjplieobnknnpaaGreatDoorJG
open List renaming map_cons → z1z, getElem?_append_left → z2z, getElem?_append_right → z3z, getElem?_cons_succ → z4z
open Array renaming getElem?_eq_some_iff → z5z
open Nat renaming le_refl → z0z
open Go.Proofs.Tryz
set_option maxRecDepth 1000000
set_option maxHeartbeats 8000000
namespace Go.Proofs.YtjplieobnknnpaaGreatDoor.W.Tr
set_option linter.unusedVariables false
def AJ:Fo->List (Nd × Nat)
 | .nil=>[]
 | .cons n ks r=>(n,ks.len)::(AJ ks++AJ r)
theorem Ei:∀f g:Fo,AJ (f.app g)=AJ f++AJ g
 | .nil,g=>rfl
 | .cons n ks r,g=>by
  show (n,ks.len)::(AJ ks++AJ (r.app g))=_
  rw[Ei r g]
  simp[AJ]
theorem LQ:∀f:Fo,f.len<=(AJ f).length
 | .nil=>z0z _
 | .cons n ks r=>by
  have:=LQ r
  simp only[Fo.len,AJ,List.length_cons,List.length_append]
  omega
def Ed(b:Nat):Fo->List Nat
 | .nil=>[]
 | .cons n ks r=>(b+1+(AJ ks).length)::(Ed (b+1) ks++Ed (b+1+(AJ ks).length) r)
theorem MK:∀ (f:Fo) (b:Nat),(Ed b f).length=(AJ f).length
 | .nil,_=>rfl
 | .cons n ks r,b=>by simp[Ed,AJ,MK ks,MK r]
def Df(L:List (Nd × Nat))(E:List Nat)(b:Nat)(f:Fo):Prop:=∀i,i<(AJ f).length->L[b+i]? = (AJ f)[i]? /\ E[b+i]? = (Ed b f)[i]?
theorem Nz(f:Fo):Df (AJ f) (Ed 0 f) 0 f:=λi _=>by simp
theorem Df.head{L:List (Nd × Nat)}{E:List Nat}{b:Nat}{n:Nd}{ks r:Fo}(h:Df L E b (.cons n ks r)):L[b]? = some (n,ks.len)/\E[b]? = some (b+1+(AJ ks).length):=by
 have:=h 0 (by simp[AJ])
 simpa [AJ,Ed] using this
theorem Df.kids{L:List (Nd × Nat)}{E:List Nat}{b:Nat}{n:Nd}{ks r:Fo}(h:Df L E b (.cons n ks r)):Df L E (b+1) ks:=by
 intro i hi
 obtain⟨h1,h2⟩:=h (i+1) (by simp[AJ];omega)
 rw[show b+1+i=b+(i+1) by omega]
 refine⟨h1.trans ?_,h2.trans ?_⟩
 ·simp[AJ,z2z hi]
 ·simp[Ed,z2z (show i<(Ed (b+1) ks).length by rw[MK];exact hi)]
theorem Df.rest{L:List (Nd × Nat)}{E:List Nat}{b:Nat}{n:Nd}{ks r:Fo}(h:Df L E b (.cons n ks r)):Df L E (b+1+(AJ ks).length) r:=by
 intro i hi
 obtain⟨h1,h2⟩:=h (1+(AJ ks).length+i) (by simp[AJ];omega)
 rw[show b+1+(AJ ks).length+i=b+(1+(AJ ks).length+i) by omega]
 refine⟨h1.trans ?_,h2.trans ?_⟩
 ·rw[show 1+(AJ ks).length+i=((AJ ks).length+i)+1 by omega]
  simp[AJ,z3z]
 ·rw[show 1+(AJ ks).length+i=((AJ ks).length+i)+1 by omega]
  simp only[Ed,z4z]
  rw[z3z (by rw[MK];omega),MK]
  congr 1
  omega
def hop(E:List Nat):Nat->Nat->Option Nat
 | x,0=>some x
 | x,k+1=>(E[x]?).bind λy=>hop E y k
theorem MS(E:List Nat):∀ (k x:Nat),hop E x (k+1)=(hop E x k).bind (E[·]?)
 | 0,x=>by
  simp only[hop,Option.bind_some]
  cases h:E[x]? <;> simp
 | k+1,x=>by
  rw[hop]
  cases h:E[x]? with
  | none=>simp[hop,h]
  | some y=>
   simp only[Option.bind_some]
   rw[MS E k y,hop,h]
   rfl
theorem Vw{L:List (Nd × Nat)}{E:List Nat}:∀ (f:Fo) (b:Nat),Df L E b f->∀k,k<=f.len->∃x,hop E b k=some x/\b<=x/\(k<f.len->x<b+(AJ f).length)/\(k=f.len->x=b+(AJ f).length)
 | .nil,b,h,k,hk=>by
  have:k=0:=by simp[Fo.len] at hk;exact hk
  subst this
  exact⟨b,rfl,z0z _,λh=>by simp[Fo.len] at h,λ_=>by simp[AJ]⟩
 | .cons n ks r,b,h,0,hk=>⟨b,rfl,z0z _,λ_=>by simp[AJ],λe=>by simp[Fo.len] at e⟩
 | .cons n ks r,b,h,k+1,hk=>by
  obtain⟨x,h1,h2,h3,h4⟩:=Vw r _ h.rest k (by simp[Fo.len] at hk;omega)
  refine⟨x,?_,by omega,λg=>?_,λg=>?_⟩
  ·rw[hop,h.head.2]
   exact h1
  ·have:=h3 (by simp[Fo.len] at g;omega)
   simp[AJ]
   omega
  ·have:=h4 (by simp[Fo.len] at g;omega)
   simp[AJ]
   omega
structure Gy (L:List (Nd × Nat)) (E:List Nat):Prop where
 len:E.length=L.length
 kid:∀ (at':Nat) (p:Nd × Nat),L[at']? = some p->∀k,k<=p.2->∃x,hop E (at'+1) k=some x/\at'<x/\(k<p.2->x<L.length)/\(k=p.2->E[at']? = some x/\x<=L.length)
theorem UZ{L:List (Nd × Nat)}{E:List Nat}:∀ (f:Fo) (b:Nat),Df L E b f->b+(AJ f).length<=L.length->∀ (j:Nat) (p:Nd × Nat),(AJ f)[j]? = some p->∀k,k<=p.2->∃x,hop E (b+j+1) k=some x/\b+j<x/\(k<p.2->x<L.length)/\(k=p.2->E[b+j]? = some x/\x<=L.length)
 | .nil,b,h,hl,j,p,hp,k,hk=>by simp[AJ] at hp
 | .cons n ks r,b,h,hl,0,p,hp,k,hk=>by
  simp only[AJ,List.getElem?_cons_zero,Option.some.injEq] at hp
  subst hp
  have hl2:b+1+(AJ ks).length<=L.length:=by simp[AJ] at hl;omega
  obtain⟨x,h1,h2,h3,h4⟩:=Vw ks _ h.kids k hk
  refine⟨x,h1,by omega,λg=>?_,λg=>?_⟩
  ·have:=h3 g;omega
  ·have:=h4 g
   subst this
   exact⟨h.head.2,hl2⟩
 | .cons n ks r,b,h,hl,j+1,p,hp,k,hk=>by
  have hl2:b+(1+(AJ ks).length+(AJ r).length)<=L.length:=by simp[AJ] at hl;omega
  simp only[AJ,z4z] at hp
  by_cases hj:j<(AJ ks).length
  ·rw[z2z hj] at hp
   obtain⟨x,h1,h2,h3,h4⟩:=UZ ks _ h.kids (by omega) j p hp k hk
   rw[show b+1+j=b+(j+1) by omega] at h1 h2 h4
   exact⟨x,h1,h2,h3,h4⟩
  ·rw[z3z (by omega)] at hp
   obtain⟨x,h1,h2,h3,h4⟩:=UZ r _ h.rest (by omega) _ p hp k hk
   rw[show b+1+(AJ ks).length+(j-(AJ ks).length)=b+(j+1) by omega] at h1 h2 h4
   exact⟨x,h1,h2,h3,h4⟩
theorem Xh(f:Fo):Gy (AJ f) (Ed 0 f):=
 ⟨MK f 0,λj p hp k hk=>by
  have:=UZ f 0 (Nz f) (by omega) j p hp k hk
  simpa using this⟩
def Ee(kind:Int)(h:Nat):Nat:=if kind=11 then h+3 else if kind=18\/kind=19\/kind=20\/kind=21\/kind=22\/kind=23\/kind=24\/kind=25\/kind=26\/kind=27\/kind=28\/kind=29\/kind=30\/kind=31 then h+1 else 0
def Dv(kind:Int)(kids nth:Nat):Nat:=if kind=21\/kind=24\/kind=8\/kind=23 then nth else if kind=11 then (if kids=nth+1 then 3 else if kids=nth+2 then 1 else 0) else 0
def He(kind:Int)(kids:Nat):Fo->Nat->Nat->Nat->Nat
 | .nil,nth,h,m=>m
 | .cons n ks r,nth,h,m=>He kind kids r (nth+1) (if n.kind=6 then h+1 else h) (max m (He n.kind ks.len ks 0 (h+Dv kind kids nth) (Ee n.kind (h+Dv kind kids nth))))
def Iq(n:Nd)(ks:Fo):Nat:=max (ks.len-1) (He n.kind ks.len ks 0 (ks.len-1) (Ee n.kind (ks.len-1)))
def Gs(b:Nat):Fo->List (Nat × Nat)
 | .nil=>[]
 | .cons n ks r=>(if n.kind=3 then [(b,Iq n ks)] else [])++Gs (b+1+(AJ ks).length) r
def JR(R:List (Nat × Nat))(a:Nat):Nat:=match R.find? (λp=>p.1==a) with|some p=>p.2|none=>0
def EM:List (ByteArray × Nat)->ByteArray->Nat->List (ByteArray × Nat)
 | [],s,v=>[(s,v)]
 | p::l,s,v=>if (s==p.1)=true then (s,v)::l else p::EM l s v
def DN(l:List (ByteArray × Nat))(s:ByteArray):Bool:=l.any λp=>s==p.1
def IJ:List (ByteArray × Nat)->ByteArray->Option Nat
 | [],_=>none
 | p::l,s=>if (s==p.1)=true then some p.2 else IJ l s
theorem Ub(s:ByteArray):∀l,DN l s=(IJ l s).isSome
 | []=>rfl
 | p::l=>by
  have ih:=Ub s l
  unfold DN at *
  unfold IJ
  rw[List.any_cons,ih]
  cases h:(s==p.1) <;> simp
structure Sc where
 taken:List (ByteArray × Nat)
 opn:List (Nat × Nat × Nat)
 scs:List (List (ByteArray × Nat))
 lps:List ByteArray
 cst:List ((Nd × Nat) × Nat)
section
variable (ar:ByteArray->Option Nat) (pm:List (ByteArray × Nat)) (L:List (Nd × Nat)) (E:List Nat)
def Gp(s:ByteArray):Option Nat:=match IJ pm s with|some n=>some n|none=>ar s
def Ku(c:Sc)(s:ByteArray):Bool:=c.lps.any λt=>s==t
def Gh(c:Sc)(n:Nd):Bool:=
 if n.kind=2\/n.kind=3 then (ar n.text).isSome||DN c.taken n.text
 else if n.kind=4\/n.kind=6 then DN (c.scs.headD []) n.text
 else if n.kind=10\/n.kind=12 then !(n.text.toList==[])&&Ku c n.text
 else false
def Ir(c:Sc)(n:Nd):Bool:=
 if n.kind=25\/n.kind=7 then !(c.scs.any λl=>DN l n.text)
 else if n.kind=23 then (Gp ar pm n.text).isNone
 else false
def JE(c:Sc)(n:Nd)(kids:Nat):Bool:=
 if n.kind=4 then decide (15<(c.scs.headD []).length)
 else if n.kind=23 then !(kids==(Gp ar pm n.text).getD 0)
 else false
def LJ(c:Sc)(n:Nd):Bool:=
 if n.kind=13\/n.kind=14 then c.lps.isEmpty||(!(n.text.toList==[]) && !Ku c n.text)
 else false
def IV(a:Nat):Nat:=(E[a]?).getD 0
def OH(a:Nat)(n:Nd):Bool:=if n.kind=10\/n.kind=11 then decide (1000<IV E a-a) else false
def Ez(c:Sc)(a:Nat)(n:Nd)(kids:Nat):Int:=
 if 256<c.opn.length then 71
 else if Gh ar c n=true then 80
 else if Ir ar pm c n=true then 63
 else if JE ar pm c n kids=true then 81
 else if LJ c n=true then 82
 else if OH E a n=true then 85
 else 0
def Jl(a:Nat):Int:=match L[a]? with|some p=>p.1.kind|none=>0
def Me(a:Nat):ByteArray:=match L[a]? with|some p=>p.1.text|none=>⟨#[]⟩
def KY(a:Nat):Int:=match L[a]? with|some p=>p.1.a|none=>0
def Hz(p q:Nd × Nat):Bool:=p.1.kind==q.1.kind&&p.1.a==q.1.a&&p.2==q.2&&p.1.text==q.1.text&&p.1.int==q.1.int&&p.1.bits==q.1.bits
def bump:List ((Nd × Nat) × Nat)->Nd × Nat->List ((Nd × Nat) × Nat)
 | [],k=>[(k,1)]
 | p::l,k=>if Hz k p.1=true then (p.1,p.2+1)::l else p::bump l k
def EO(c:Sc)(a:Nat)(n:Nd)(kids:Nat):Option Sc:=
 let c1:Sc:={ c with opn:=(a,c.scs.length,c.lps.length)::c.opn }
 if n.kind=2 then some { c1 with taken:=EM c.taken n.text a }
 else if n.kind=3 then some { c1 with taken:=EM c.taken n.text a,scs:=[]::c.scs,cst:=[] }
 else if n.kind=4 then (match c.scs with
  | []=>none
  | s::r=>some { c1 with scs:=EM s n.text a::r })
 else if n.kind=5 then (match c.opn with
  | []=>none
  | o::_=>if Jl L o.1=11 then some { c1 with scs:=[]::[(Me L o.1,o.1)]::c.scs } else some { c1 with scs:=[]::c.scs })
 else if n.kind=10 then some { c1 with lps:=n.text::c.lps }
 else if n.kind=11 then some { c1 with lps:=⟨#[]⟩::c.lps }
 else if n.kind=12 then (match c.lps with
  | []=>none
  | _::r=>some { c1 with lps:=n.text::r })
 else if n.kind=26\/n.kind=27\/n.kind=28 then some { c1 with cst:=bump c.cst ({ n with a:=0 },kids) }
 else some c1
def EH(c:Sc):Option Sc:=match c.opn with
 | []=>none
 | (a,s,l)::r=>
  let scs:=c.scs.drop (c.scs.length-s)
  let lps:=c.lps.drop (c.lps.length-l)
  if Jl L a=6 then (match scs with
   | []=>none
   | t::q=>some { c with opn:=r,scs:=EM t (Me L a) a::q,lps:=lps })
  else some { c with opn:=r,scs:=scs,lps:=lps }
variable (R:List (Nat × Nat)) (mr:Int)
def EZ(c:Sc)(a:Nat):Int:=
 if Jl L a=3 then (if 64<c.cst.length then 84 else if mr<(JR R a:Nat) then 83 else 0) else 0
def Ga(a:Nat):Nat->Sc->Option (Sum (Int × Int) Sc)
 | 0,c=>some (.inr c)
 | f+1,c=>match c.opn with
  | []=>some (.inr c)
  | o::_=>if IV E o.1=a+1 then (match EH L c with
    | none=>none
    | some c'=>if EZ L R mr c' o.1=0 then Ga a f c' else some (.inl (EZ L R mr c' o.1,KY L o.1)))
   else some (.inr c)
def IG:Nat->Nat->Sc->Option (Int × Int)
 | 0,a,c=>some (0,0)
 | r+1,a,c=>match L[a]? with
  | none=>none
  | some (n,kids)=>if Ez ar pm E c a n kids=0 then (match EO L c a n kids with
    | none=>none
    | some c1=>(match Ga L E R mr a c1.opn.length c1 with
     | none=>none
     | some (.inl f)=>some f
     | some (.inr c2)=>IG r (a+1) c2))
   else some (Ez ar pm E c a n kids,n.a)
end
def Fy(b:Nat):Fo->List (ByteArray × Nat)->List (ByteArray × Nat)
 | .nil,g=>g
 | .cons n ks r,g=>Fy (b+1+(AJ ks).length) r (if n.kind=2 then EM g n.text b else g)
def Fg:Fo->List (ByteArray × Nat)->List (ByteArray × Nat)
 | .nil,g=>g
 | .cons n ks r,g=>Fg r (if n.kind=2 then g else if DN g n.text=true then g else g++[(n.text,ks.len-1)])
def Jf(ar:ByteArray->Option Nat)(mr:Int)(fo:Fo):Option (Int × Int):=match fo with
 | .cons n ks .nil=>IG ar (Fg ks []) (AJ fo) (Ed 0 fo) (Gs 1 ks) mr (AJ fo).length 0 ⟨[],[],[Fy 1 ks []],[],[]⟩
 | _=>none
def OD(s:List UInt8):Bool:=s==[43]||s==[45]||s==[42]||s==[47]||s==[47,47]||s==[37]||s==[60]||s==[60,61]||s==[62]||s==[62,61]||s==[61,61]||s==[33,61]
def Iu(L:List (Nd × Nat)):List Int:=(L.filter λp=>(p.1.kind==21)&&OD p.1.text.toList).map λp=>p.1.a
open Go.ChangeShapes Go.WideShapes Go.RowKit Go.ChangeMaps
def FH(w:World)(b:Nat)(l:List (ByteArray × Value)):Prop:=∃es clock,w.heap[b]? = some (.map es clock)/\es.toList.map (λe=>(e.key,e.val))=l.map (λp=>(Value.string p.1,p.2))
def FC:List (ByteArray × Value)->ByteArray->Option Value
 | [],_=>none
 | p::l,s=>if (s==p.1)=true then some p.2 else FC l s
theorem Qo(s:ByteArray):∀ (es:List MapEntry) (l:List (ByteArray × Value)) (i:Nat),es.map (λe=>(e.key,e.val))=l.map (λp=>(Value.string p.1,p.2)) ->
  (FC l s=none->Instr.findNow .string (.string s) es i=some none)/\(∀v,FC l s=some v->∃j,Instr.findNow .string (.string s) es i=some (some (j,v)))
 | [],[],i,_=>⟨λ_=>rfl,λv h=>by cases h⟩
 | [],_::_,i,h=>by simp at h
 | _::_,[],i,h=>by simp at h
 | e::es,p::l,i,h=>by
  simp only[z1z,List.cons.injEq,Prod.mk.injEq] at h
  obtain⟨⟨hk,hv⟩,ht⟩:=h
  have ih:=Qo s es l (i+1) ht
  unfold FC Instr.findNow
  rw[hk]
  by_cases c:(s==p.1)=true
  ·rw[if_pos c]
   refine⟨λh=>(by cases h),λv h=>⟨i,?_⟩⟩
   cases h
   simp only[Instr.sameNow,c]
   rw[hv]
  ·rw[if_neg c]
   have c':(s==p.1)=false:=by simpa using c
   simp only[Instr.sameNow,c']
   exact ih
section
variable {P:Program} {w:World} {t k e:TypeId} {b:Nat} {l:List (ByteArray × Value)}
theorem FH.below{w':World}(h:FH w b l)(hB:Below w.heap.size w w'):FH w' b l:=by
 obtain⟨es,clock,h1,h2⟩:=h
 exact⟨es,clock,(hB.block b (z5z.1 h1).1).trans h1,h2⟩
theorem FH.lt(h:FH w b l):b<w.heap.size:=by
 obtain⟨es,clock,h1,h2⟩:=h
 exact(z5z.1 h1).1
theorem fI(w:World):FH (w.alloc (.map #[] 0)) w.heap.size []:=⟨#[],0,(MapKept.heap_alloc w _).1,rfl⟩
theorem XP(ht:P.underlying t=some (.map k e))(hk:P.underlying k=some .string)(h:FH w b l)(s:ByteArray)(v:Value)(hn:FC l s=none) :
  ∃w',(Instr.mapUpdate t (.map (some b)) (.string s) v).run P w=.ok () w'/\FH w' b (l++[(s,v)])/\w.grownBy w' (some b):=by
 obtain⟨es,clock,hb,h2⟩:=h
 have h1:=(Qo s es.toList l 0 h2).1 hn
 have hc:(Instr.checkKey false 10000 k (.string s)).run P w=.ok () w:=MapKept.run_checkKey (k:=.string s) hk (by simp[MapKept.IsKey]) false 9999
 refine⟨setBlock w b (.map (es.push ⟨.string s,v,clock⟩) (clock+1)),?_,⟨_,_,heap_setBlock_same hb _,?_⟩,⟨rfl,rfl,rfl,by simp[setBlock],λi _ hi=>heap_setBlock_other hb _ (λe=>hi (by rw[e]))⟩⟩
 ·simp[Instr.mapUpdate,run_underlying ht,MapKept.run_getObj_map hb,hc,MapKept.run_findKey hk h1,MapKept.run_setObj_map _ hb,Result.andThen,setBlock]
 ·rw[Array.toList_push,List.map_append,List.map_append,h2]
  rfl
theorem aC(ht:P.underlying t=some (.map k e))(hk:P.underlying k=some .string)(h:FH w b l)(s:ByteArray)(v:Value)(hv:FC l s=some v) :
  (Instr.lookup t (.map (some b)) (.string s) true).run P w=.ok (.tuple #[v,.bool true]) w:=by
 obtain⟨es,clock,hb,h2⟩:=h
 obtain⟨j,h1⟩:=(Qo s es.toList l 0 h2).2 v hv
 have hc:(Instr.checkKey es.isEmpty 10000 k (.string s)).run P w=.ok () w:=MapKept.run_checkKey (k:=.string s) hk (by simp[MapKept.IsKey]) _ 9999
 simp[Instr.lookup,run_underlying ht,MapKept.run_getObj_map hb,hc,MapKept.run_findKey hk h1,Result.andThen]
theorem XO(ht:P.underlying t=some (.map k e))(hk:P.underlying k=some .string)(h:FH w b l)(s:ByteArray)(z:Value)(hz:(zeroValue e).run P w=.ok z w)(hv:FC l s=none) :
  (Instr.lookup t (.map (some b)) (.string s) true).run P w=.ok (.tuple #[z,.bool false]) w:=by
 obtain⟨es,clock,hb,h2⟩:=h
 have h1:=(Qo s es.toList l 0 h2).1 hv
 have hc:(Instr.checkKey es.isEmpty 10000 k (.string s)).run P w=.ok () w:=MapKept.run_checkKey (k:=.string s) hk (by simp[MapKept.IsKey]) _ 9999
 simp[Instr.lookup,run_underlying ht,MapKept.run_getObj_map hb,hc,MapKept.run_findKey hk h1,hz,Result.andThen]
theorem jg{ops:Array Oper}{rest:List Oper}{o:Oper}{a:Act}{Q:Exit->Act->World->Prop}
  (hg:o.guard=none) (m x v:Operand) (t:TypeId) (hop:o.op=Op.insert t m x v) (k e:TypeId) (ht:P.underlying t=some (.map k e)) (hk:P.underlying k=some .string)
  (b:Nat) (hm:a.eval m=.map (some b)) (h:FH w b l) (s:ByteArray) (val:Value) (hx:a.eval x=.string s) (hv:a.eval v=val) (hn:FC l s=none)
  (hK:∀w',FH w' b (l++[(s,val)])->w.grownBy w' (some b)->wpList P ops Q rest (a.put o.dst undef) w') :
  wpList P ops Q (o::rest) a w:=by
 refine wpList_plain hg λK' hK'=>?_
 obtain⟨w',hrun,r1,r2⟩:=XP ht hk h s val hn
 unfold Oper.wp
 simp[execOp,hop,hm,hx,hv,hrun,Result.andThen]
 exact hK' _ _ (hK w' r1 r2)
end
def KI:List (ByteArray × Value)->ByteArray->Value->List (ByteArray × Value)
 | [],s,v=>[(s,v)]
 | p::l,s,v=>if (s==p.1)=true then (s,v)::l else p::KI l s v
def Km(l:List (ByteArray × Nat)):List (ByteArray × Value):=l.map λp=>(p.1,.int .i64 (p.2:Nat))
theorem Vp(s:ByteArray)(n:Nat):∀l,Km (EM l s n)=KI (Km l) s (.int .i64 (n:Nat))
 | []=>rfl
 | p::l=>by
  have ih:=Vp s n l
  unfold EM
  simp only[Km,z1z] at ih ⊢
  unfold KI
  by_cases h:(s==p.1)=true
  ·simp[h]
  ·simp only[if_neg h,z1z,ih]
theorem UL(s:ByteArray):∀l,FC (Km l) s=(IJ l s).map λn=>Value.int .i64 (n:Nat)
 | []=>rfl
 | p::l=>by
  have ih:=UL s l
  simp only[Km,z1z] at ih ⊢
  unfold FC IJ
  by_cases h:(s==p.1)=true
  ·simp[h]
  ·simp only[if_neg h,ih]
theorem ZT(s:ByteArray)(v:Value):∀l,FC l s=none->KI l s v=l++[(s,v)]
 | [],_=>rfl
 | p::l,h=>by
  unfold FC at h
  unfold KI
  by_cases c:(s==p.1)=true
  ·simp[c] at h
  ·rw[if_neg c] at h ⊢
   rw[ZT s v l h]
   rfl
theorem VZ(s:ByteArray)(v:Value):∀ (es:List MapEntry) (l:List (ByteArray × Value)) (i:Nat),es.map (λe=>(e.key,e.val))=l.map (λp=>(Value.string p.1,p.2))->∀u,FC l s=some u ->
  ∃j,Instr.findNow .string (.string s) es i=some (some (i+j,u))/\(es[j]?).map (·.key)=some (.string s)/\(es.modify j (λe=>{ e with key:=.string s,val:=v })).map (λe=>(e.key,e.val))=(KI l s v).map (λp=>(Value.string p.1,p.2))
 | [],[],i,_,u,h=>by cases h
 | [],_::_,i,h,u,_=>by simp at h
 | _::_,[],i,h,u,_=>by simp at h
 | e::es,p::l,i,h,u,hu=>by
  simp only[z1z,List.cons.injEq,Prod.mk.injEq] at h
  obtain⟨⟨hk,hv⟩,ht⟩:=h
  unfold FC at hu
  unfold Instr.findNow KI
  by_cases c:(s==p.1)=true
  ·rw[if_pos c] at hu ⊢
   have es1:=(MapKept.bytes_beq _ _).1 c
   cases hu
   refine⟨0,?_,by simp[hk,es1],?_⟩
   ·simp only[hk,Instr.sameNow,c,hv,Nat.add_zero]
   ·simp[ht]
  ·rw[if_neg c] at hu ⊢
   have c':(s==p.1)=false:=by simpa using c
   obtain⟨j,h1,h2,h3⟩:=VZ s v es l (i+1) ht u hu
   refine⟨j+1,?_,by simpa using h2,?_⟩
   ·simp only[hk,Instr.sameNow,c']
    rw[h1,show i+1+j=i+(j+1) by omega]
   ·simp only[List.modify_succ_cons,z1z,h3,hk,hv]
section
variable {P:Program} {w:World} {t k e:TypeId} {b:Nat} {l:List (ByteArray × Value)}
theorem AAF(ht:P.underlying t=some (.map k e))(hk:P.underlying k=some .string)(h:FH w b l)(s:ByteArray)(v:Value) :
  ∃w',(Instr.mapUpdate t (.map (some b)) (.string s) v).run P w=.ok () w'/\FH w' b (KI l s v)/\w.grownBy w' (some b):=by
 cases hf:FC l s with
 | none=>
  rw[ZT s v l hf]
  exact XP ht hk h s v hf
 | some u=>
  obtain⟨es,clock,hb,h2⟩:=h
  obtain⟨j,h1,h3,h4⟩:=VZ s v es.toList l 0 h2 u hf
  rw[Nat.zero_add] at h1
  have hc:(Instr.checkKey false 10000 k (.string s)).run P w=.ok () w:=MapKept.run_checkKey (k:=.string s) hk (by simp[MapKept.IsKey]) false 9999
  have hs:(s==s)=true:=(MapKept.bytes_beq s s).2 rfl
  have h3':(es[j]?).map (·.key)=some (.string s):=by rw[<- h3,Array.getElem?_toList]
  refine⟨setBlock w b (.map (es.modify j λe=>{ e with key:=.string s,val:=v }) clock),?_,⟨_,_,heap_setBlock_same hb _,?_⟩,⟨rfl,rfl,rfl,by simp[setBlock],λi _ hi=>heap_setBlock_other hb _ (λe=>hi (by rw[e]))⟩⟩
  ·simp[Instr.mapUpdate,run_underlying ht,MapKept.run_getObj_map hb,hc,MapKept.run_findKey hk h1,MapKept.run_setObj_map _ hb,Result.andThen,setBlock,Instr.keyThatStays,h3',Instr.sameBits,hs]
  ·rw[Array.toList_modify]
   exact h4
def Bz(w:World)(b:Nat)(l:List (ByteArray × Nat)):Prop:=FH w b (Km l)
variable {m:List (ByteArray × Nat)}
theorem Bz.below{w':World}(h:Bz w b m)(hB:Below w.heap.size w w'):Bz w' b m:=FH.below h hB
theorem Bz.on{w':World}(h:Bz w b m)(hb:w'.heap[b]? = w.heap[b]?):Bz w' b m:=by
 obtain⟨es,clock,h1,h2⟩:=h
 exact⟨es,clock,hb.trans h1,h2⟩
theorem Bz.lt(h:Bz w b m):b<w.heap.size:=FH.lt h
theorem Px(w:World):Bz (w.alloc (.map #[] 0)) w.heap.size []:=fI w
theorem Lu(ht:P.underlying t=some (.map k e))(hk:P.underlying k=some .string)(h:Bz w b m)(s:ByteArray)(n:Nat) :
  ∃w',(Instr.mapUpdate t (.map (some b)) (.string s) (.int .i64 (n:Nat))).run P w=.ok () w'/\Bz w' b (EM m s n)/\w.grownBy w' (some b):=by
 obtain⟨w',h1,h2,h3⟩:=AAF ht hk h s (.int .i64 (n:Nat))
 exact⟨w',h1,by unfold Bz;rw[Vp];exact h2,h3⟩
theorem VG(ht:P.underlying t=some (.map k e))(hk:P.underlying k=some .string)(hz:(zeroValue e).run P w=.ok (.int .i64 0) w)(h:Bz w b m)(s:ByteArray) :
  (Instr.lookup t (.map (some b)) (.string s) true).run P w=.ok (.tuple #[.int .i64 (((IJ m s).getD 0:Nat):Int),.bool (DN m s)]) w:=by
 rw[Ub]
 cases hf:IJ m s with
 | none=>exact XO ht hk h s _ hz (by rw[UL,hf];rfl)
 | some n=>exact aC ht hk h s _ (by rw[UL,hf];rfl)
theorem iQ(ht:P.underlying t=some (.map k e))(ty:TypeId)(h:Bz w b m):(Builtin.len_ #[t] ty #[.map (some b)]).run P w=.ok (goInt m.length) w:=by
 obtain⟨es,clock,h1,h2⟩:=h
 have:es.size=m.length:=by
  have:=congrArg List.length h2
  simpa [Km] using this
 simp[Builtin.len_,run_underlying ht,MapKept.run_getObj_map h1,Result.andThen,this]
end
theorem Uy:prog.underlying 186=some (.map 9 184):=by kernel_rfl
theorem II:prog.underlying 9=some .string:=by kernel_rfl
def opsL(x5 x6 x7 x8 x9:Nat):List (ByteArray × Value):=[(⟨#[105,110,116]⟩,.agg #[.int .i64 1,.func (.func 178) #[] #[]]),(⟨#[102,108,111,97,116]⟩,.agg #[.int .i64 1,.func (.func 179) #[] #[]]),(⟨#[116,101,120,116]⟩,.agg #[.int .i64 1,.func (.func 180) #[] #[]]),(⟨#[110,117,109]⟩,.agg #[.int .i64 1,.func (.func 181) #[] #[]]),(⟨#[108,101,110]⟩,.agg #[.int .i64 1,.func (.func 182) #[] #[]]),(⟨#[115,117,98]⟩,.agg #[.int .i64 3,.func (.func 183) #[] #[]]),(⟨#[98,121,116,101]⟩,.agg #[.int .i64 2,.func (.func 184) #[] #[]]),(⟨#[99,104,114]⟩,.agg #[.int .i64 1,.func (.func 185) #[] #[]]),(⟨#[98,105,116,115]⟩,.agg #[.int .i64 1,.func (.func 186) #[] #[]]),(⟨#[102,114,111,109,98,105,116,115]⟩,.agg #[.int .i64 1,.func (.func 187) #[] #[]]),(⟨#[102,54,52]⟩,.agg #[.int .i64 1,.func (.func 219) #[] #[.pointer (some ⟨x5,0,none⟩)]]),(⟨#[102,51,50]⟩,.agg #[.int .i64 1,.func (.func 219) #[] #[.pointer (some ⟨x6,0,none⟩)]]),(⟨#[105,49,54]⟩,.agg #[.int .i64 1,.func (.func 219) #[] #[.pointer (some ⟨x7,0,none⟩)]]),(⟨#[117,56]⟩,.agg #[.int .i64 1,.func (.func 219) #[] #[.pointer (some ⟨x8,0,none⟩)]]),(⟨#[114,111,119]⟩,.agg #[.int .i64 1,.func (.func 219) #[] #[.pointer (some ⟨x9,0,none⟩)]]),(⟨#[118,105,101,119]⟩,.agg #[.int .i64 4,.func (.func 189) #[] #[]]),(⟨#[108,111,97,100]⟩,.agg #[.int .i64 2,.func (.func 190) #[] #[]]),(⟨#[115,116,111,114,101]⟩,.agg #[.int .i64 3,.func (.func 191) #[] #[]]),(⟨#[107,105,110,100]⟩,.agg #[.int .i64 1,.func (.func 192) #[] #[]])]
theorem yj(k:Int)(W:World):Calls prog 188 #[.int .i64 k] W λe w'=>e=.returned (.func (.func 219) #[] #[.pointer (some ⟨W.heap.size,0,none⟩)])/\W.heap.size<w'.heap.size/\Below W.heap.size W w':=by
 have hB:Below W.heap.size W (W.alloc (.cells #[.int .i64 k] 3)):=(Below.refl _ W).alloc (z0z _) _
 have hz:W.heap.size<(W.alloc (.cells #[.int .i64 k] 3)).heap.size:=by rw[World.size_alloc];exact Nat.lt_succ_self _
 go_enter func188,ntmps188
 go_wp2
 go_ret
 exact⟨rfl,hz,hB⟩
theorem ACA(W:World):Calls prog 156 #[] W λe w'=>∃b x5 x6 x7 x8 x9,e=.returned (.map (some b))/\FH w' b (opsL x5 x6 x7 x8 x9)/\Below W.heap.size W w':=by
 have hmm:=@run_makeMap prog
 have HL:=fI W
 have HB:Below W.heap.size W (W.alloc (.map #[] 0)):=(Below.refl _ W).alloc (z0z _) _
 go_enter func156,ntmps156
 go_wp2_with (first|(go_at_call 188;(with_reducible refine(yj _ _).mono ?_);rintro e w1 ⟨rfl,hz,hB⟩;replace HL:=HL.below hB;replace HB:=HB.trans (hB.mono HB.size);(generalize World.heap _=hx at hz;clear hz hB))|(refine jg rfl _ _ _ _ rfl _ _ Uy II _ rfl HL _ _ rfl rfl (by kernel_rfl) ?_;clear HL;intro w1 HL hg;replace HB:=HB.grown hg HB.size (λj hj=>by cases hj;exact z0z _);clear hg))
 go_ret
 exact⟨_,_,_,_,_,_,rfl,HL,HB⟩
end Go.Proofs.YtjplieobnknnpaaGreatDoor.W.Tr
