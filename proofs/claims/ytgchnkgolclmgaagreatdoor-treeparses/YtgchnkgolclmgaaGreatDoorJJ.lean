import Derived.Test.YtgchnkgolclmgaaGreatDoorJC
open Nat renaming zero_le → aH
set_option maxRecDepth 1000000
set_option maxHeartbeats 8000000
namespace Go.Proofs.YtgchnkgolclmgaaGreatDoor.W.Tr
structure Nd where
 kind:Int
 a:Int
 text:ByteArray
 int:Int
 bits:Int
inductive Fo where
 | nil
 | cons (n:Nd) (ks r:Fo)
def Fo.app:Fo->Fo->Fo
 | .nil,g=>g
 | .cons n ks r,g=>.cons n ks (r.app g)
def Fo.len:Fo->Nat
 | .nil=>0
 | .cons _ _ r=>r.len+1
def Fo.one(n:Nd)(ks:Fo):Fo:=.cons n ks .nil
structure Cs where
 r:List Yd
 o:Int
abbrev jv:=Int × Int
abbrev Rs(α:Type):=Except jv (α × Cs)
abbrev Cw:ByteArray:=⟨#[111,114]⟩
abbrev uP:ByteArray:=⟨#[97,110,100]⟩
abbrev zG:ByteArray:=⟨#[110,111,116]⟩
abbrev gH:ByteArray:=⟨#[40]⟩
abbrev fM:ByteArray:=⟨#[41]⟩
abbrev oz:ByteArray:=⟨#[91]⟩
abbrev zF:ByteArray:=⟨#[93]⟩
abbrev sG:ByteArray:=⟨#[123]⟩
abbrev nC:ByteArray:=⟨#[125]⟩
abbrev Cy:ByteArray:=⟨#[45]⟩
abbrev Ct:ByteArray:=⟨#[126]⟩
abbrev kF:ByteArray:=⟨#[116,114,117,101]⟩
abbrev jG:ByteArray:=⟨#[102,97,108,115,101]⟩
abbrev oG:ByteArray:=⟨#[110,105,108]⟩
abbrev fU:ByteArray:=⟨#[108,101,116]⟩
abbrev bV:ByteArray:=⟨#[59]⟩
abbrev sH:ByteArray:=⟨#[102,110]⟩
abbrev nE:ByteArray:=⟨#[44]⟩
abbrev jV:ByteArray:=⟨#[105,102]⟩
abbrev dU:ByteArray:=⟨#[119,104,105,108,101]⟩
abbrev dZ:ByteArray:=⟨#[102,111,114]⟩
abbrev jH:ByteArray:=⟨#[98,114,101,97,107]⟩
abbrev fD:ByteArray:=⟨#[99,111,110,116,105,110,117,101]⟩
abbrev gD:ByteArray:=⟨#[114,101,116,117,114,110]⟩
abbrev oF:ByteArray:=⟨#[111,117,116]⟩
abbrev pE:ByteArray:=⟨#[101,108,115,101]⟩
abbrev k_in:ByteArray:=⟨#[105,110]⟩
abbrev qx:ByteArray:=⟨#[46,46]⟩
abbrev pF:ByteArray:=⟨#[58]⟩
abbrev jf:ByteArray:=⟨#[61]⟩
def aG(t:Tk):ByteArray:=if t.kind=2\/t.kind=3 then t.text else ⟨#[]⟩
def dx(t:Tk):Bool:=aG t=gH||aG t=oz||aG t=sG
def eP(t:Tk):Bool:=aG t=fM||aG t=zF||aG t=nC
def look(s:Cs):Except jv Yd:=match s.r with
 | []=>.error (0,0)
 | y::_=>if y.c=0 then (if dx y.t=true/\s.o=64 then .error (71,y.a) else .ok y) else .error (y.c,y.f)
def behind(y:Yd)(s:Cs):Cs:=⟨s.r.tail,s.o+(if dx y.t=true then 1 else 0)-(if eP y.t=true then 1 else 0)⟩
def Pm(α:Type):=Cs->Option (Rs α)
def Pm.pure{α:Type}(a:α):Pm α:=λs=>some (.ok (a,s))
def Pm.bind{α β:Type}(x:Pm α)(f:α->Pm β):Pm β:=λs=>match x s with
 | none=>none
 | some (.error e)=>some (.error e)
 | some (.ok (a,s'))=>f a s'
def dW:Pm Yd:=λs=>match look s with
 | .error e=>some (.error e)
 | .ok y=>some (.ok (y,s))
def eG:Pm Yd:=λs=>match look s with
 | .error e=>some (.error e)
 | .ok y=>some (.ok (y,behind y s))
def lN{α:Type}(e:jv):Pm α:=λ_=>some (.error e)
def dw(t:ByteArray):Pm Yd:=dW.bind λy=>if aG y.t=t then eG else lN (70,y.a)
def kX:Pm Yd:=dW.bind λy=>if y.t.kind=1 then eG else lN (70,y.a)
def kT(k:Int)(y:Yd):Nd:=⟨k,y.a,⟨#[]⟩,0,0⟩
def jr(k:Int)(y:Yd):Nd:=⟨k,y.a,y.t.text,y.t.int,y.t.bits⟩
def tight(t:ByteArray):Nat:=if t=⟨#[124]⟩ then 1 else if t=⟨#[94]⟩ then 2 else if t=⟨#[38]⟩ then 3 else if t=⟨#[60,60]⟩\/t=⟨#[62,62]⟩ then 4 else if t=⟨#[43]⟩\/t=⟨#[45]⟩ then 5 else if t=⟨#[42]⟩\/t=⟨#[47]⟩\/t=⟨#[47,47]⟩\/t=⟨#[37]⟩ then 6 else 0
def comp(t:ByteArray):Bool:=t=⟨#[61,61]⟩||t=⟨#[33,61]⟩||t=⟨#[60]⟩||t=⟨#[60,61]⟩||t=⟨#[62]⟩||t=⟨#[62,61]⟩
def colon(s:Cs):Bool:=match s.r with
 | _::z::_=>z.c=0&&aG z.t=pF
 | _=>false
def stM:Pm Cs:=λs=>some (.ok (s,s))
inductive Nt where
 | ex|xB (l:Fo)|cj|xH (l:Fo)|ng|cm|bn (k:Nat)|xM (k:Nat) (l:Fo)|un|po|wI (l:Fo)|pr|nm|wd
 | ls (p:Bool)|oq (p:Bool) (l:Fo)|pm|gl|fu|pg (l:Fo)|bl|zU (l:Fo)|st|lt|iF|wh|fr|lb|jm (k:Int)|rt|ou|pl|D6 (n:Nd) (ks:Fo)
open Fo in
def P:Nat->Nt->Pm Fo
 | 0,_=>λ_=>none
 | n+1,.ex=>(P n .cj).bind λl=>P n (.xB l)
 | n+1,.xB l=>dW.bind λy=>if aG y.t=Cw then eG.bind λy=>(P n .cj).bind λr=>P n (.xB (one (kT 18 y) (l.app r))) else Pm.pure l
 | n+1,.cj=>(P n .ng).bind λl=>P n (.xH l)
 | n+1,.xH l=>dW.bind λy=>if aG y.t=uP then eG.bind λy=>(P n .ng).bind λr=>P n (.xH (one (kT 19 y) (l.app r))) else Pm.pure l
 | n+1,.ng=>dW.bind λy=>if aG y.t=zG then eG.bind λy=>(P n .ng).bind λk=>Pm.pure (one (kT 20 y) k) else P n .cm
 | n+1,.cm=>(P n (.bn 1)).bind λl=>dW.bind λy=>if comp (aG y.t)=true then eG.bind λy=>(P n (.bn 1)).bind λr=>Pm.pure (one (jr 21 y) (l.app r)) else Pm.pure l
 | n+1,.bn k=>if 6<k then P n .un else (P n (.bn (k+1))).bind λl=>P n (.xM k l)
 | n+1,.xM k l=>dW.bind λy=>if tight (aG y.t)=k then eG.bind λy=>(P n (.bn (k+1))).bind λr=>P n (.xM k (one (jr 21 y) (l.app r))) else Pm.pure l
 | n+1,.un=>dW.bind λy=>if aG y.t=Cy\/aG y.t=Ct then eG.bind λy=>(P n .un).bind λk=>Pm.pure (one (jr 22 y) k) else P n .po
 | n+1,.po=>(P n .pr).bind λl=>P n (.wI l)
 | n+1,.wI l=>dW.bind λy=>if aG y.t=oz then eG.bind λy=>(P n .ex).bind λi=>(dw zF).bind λ_=>P n (.wI (one (kT 24 y) (l.app i))) else Pm.pure l
 | n+1,.pr=>dW.bind λy=>if y.t.kind=4 then eG.bind λy=>Pm.pure (one (jr 26 y) nil) else if y.t.kind=5 then eG.bind λy=>Pm.pure (one (jr 27 y) nil) else if y.t.kind=6 then eG.bind λy=>Pm.pure (one (jr 28 y) nil) else if y.t.kind=1 then P n .nm else if y.t.kind=2 then P n .wd else (dw gH).bind λ_=>(P n .ex).bind λi=>(dw fM).bind λ_=>Pm.pure i
 | n+1,.nm=>kX.bind λy=>dW.bind λz=>if aG z.t=gH then (P n (.ls false)).bind λl=>Pm.pure (one (jr 23 y) l) else Pm.pure (one (jr 25 y) nil)
 | _+1,.wd=>dW.bind λy=>if aG y.t=kF then eG.bind λy=>Pm.pure (one (kT 29 y) nil) else if aG y.t=jG then eG.bind λy=>Pm.pure (one (kT 30 y) nil) else (dw oG).bind λy=>Pm.pure (one (kT 31 y) nil)
 | n+1,.ls p=>(dw gH).bind λ_=>P n (.oq p nil)
 | n+1,.oq p l=>dW.bind λy=>if aG y.t=fM then (dw fM).bind λ_=>Pm.pure l else (if l.len=0 then Pm.pure y else dw nE).bind λ_=>(P n (if p=true then .pm else .ex)).bind λx=>P n (.oq p (l.app x))
 | _+1,.pm=>kX.bind λy=>Pm.pure (one (jr 4 y) nil)
 | _+1,.gl=>(dw fU).bind λ_=>kX.bind λy=>(dw bV).bind λ_=>Pm.pure (one (jr 2 y) nil)
 | n+1,.fu=>(dw sH).bind λ_=>kX.bind λy=>(P n (.ls true)).bind λl=>(P n .bl).bind λb=>Pm.pure (one (jr 3 y) (l.app b))
 | n+1,.pg l=>dW.bind λy=>if y.t.kind=7 then Pm.pure (one ⟨1,0,⟨#[]⟩,0,0⟩ l) else (P n (if aG y.t=fU then .gl else .fu)).bind λx=>P n (.pg (l.app x))
 | n+1,.bl=>(dw sG).bind λy=>(P n (.zU nil)).bind λl=>Pm.pure (one (kT 5 y) l)
 | n+1,.zU l=>dW.bind λy=>if aG y.t=nC then (dw nC).bind λ_=>Pm.pure l else (P n .st).bind λx=>P n (.zU (l.app x))
 | n+1,.st=>dW.bind λy=>if aG y.t=fU then P n .lt else if aG y.t=jV then P n .iF else if aG y.t=dU then P n .wh else if aG y.t=dZ then P n .fr else if aG y.t=jH then P n (.jm 13) else if aG y.t=fD then P n (.jm 14) else if aG y.t=gD then P n .rt else if aG y.t=oF then P n .ou else stM.bind λs=>if y.t.kind=1/\colon s=true then P n .lb else P n .pl
 | n+1,.lt=>(dw fU).bind λ_=>kX.bind λy=>(dw jf).bind λ_=>(P n .ex).bind λv=>(dw bV).bind λ_=>Pm.pure (one (jr 6 y) v)
 | n+1,.iF=>(dw jV).bind λy=>(P n .ex).bind λc=>(P n .bl).bind λb=>dW.bind λz=>if aG z.t=pE then eG.bind λ_=>dW.bind λz=>(P n (if aG z.t=jV then .iF else .bl)).bind λd=>Pm.pure (one (kT 9 y) ((c.app b).app d)) else Pm.pure (one (kT 9 y) (c.app b))
 | n+1,.wh=>(dw dU).bind λy=>(P n .ex).bind λc=>(P n .bl).bind λb=>Pm.pure (one (kT 10 y) (c.app b))
 | n+1,.fr=>(dw dZ).bind λy=>kX.bind λv=>(dw k_in).bind λ_=>(P n .ex).bind λf=>(dw qx).bind λ_=>(P n .ex).bind λt=>(P n .bl).bind λb=>Pm.pure (one ⟨11,y.a,v.t.text,0,0⟩ ((f.app t).app b))
 | n+1,.lb=>kX.bind λy=>(dw pF).bind λ_=>dW.bind λz=>if aG z.t=dZ then (P n .fr).bind λf=>Pm.pure (match f with | .cons m ks r=>.cons m ((one (jr 12 y) nil).app ks) r | .nil=>.nil) else (P n .wh).bind λf=>Pm.pure (match f with | .cons m ks r=>.cons ⟨m.kind,m.a,y.t.text,m.int,m.bits⟩ ks r | .nil=>.nil)
 | _+1,.jm k=>eG.bind λy=>dW.bind λz=>if aG z.t=bV then (dw bV).bind λ_=>Pm.pure (one (kT k y) nil) else kX.bind λv=>(dw bV).bind λ_=>Pm.pure (one ⟨k,y.a,v.t.text,0,0⟩ nil)
 | n+1,.rt=>(dw gD).bind λy=>dW.bind λz=>if aG z.t=bV then (dw bV).bind λ_=>Pm.pure (one (kT 15 y) nil) else (P n .ex).bind λv=>(dw bV).bind λ_=>Pm.pure (one (kT 15 y) v)
 | n+1,.ou=>(dw oF).bind λy=>(P n .ex).bind λv=>(dw bV).bind λ_=>Pm.pure (one (kT 16 y) v)
 | n+1,.pl=>(P n .ex).bind λf=>dW.bind λz=>match f with
  | .nil=>Pm.pure f
  | .cons m ks _=>if aG z.t=jf/\m.kind=25 then P n (.D6 ⟨7,m.a,m.text,m.int,m.bits⟩ ks) else if aG z.t=jf/\m.kind=24 then P n (.D6 ⟨8,m.a,m.text,m.int,m.bits⟩ ks) else (dw bV).bind λ_=>Pm.pure (one ⟨17,m.a,⟨#[]⟩,0,0⟩ f)
 | n+1,.D6 m ks=>(dw jf).bind λ_=>(P n .ex).bind λv=>(dw bV).bind λ_=>Pm.pure (one m (ks.app v))
def Pm.Le{α:Type}(x y:Pm α):Prop:=∀s r,x s=some r->y s=some r
theorem Pm.Le.refl{α:Type}(x:Pm α):Pm.Le x x:=λ_ _ h=>h
theorem Pm.Le.trans{α:Type}{x y z:Pm α}(h:Pm.Le x y)(g:Pm.Le y z):Pm.Le x z:=λs r e=>g s r (h s r e)
theorem Pm.Le.bind{α β:Type}{x x':Pm α}{f f':α->Pm β}(h:Pm.Le x x')(g:∀a,Pm.Le (f a) (f' a)):Pm.Le (x.bind f) (x'.bind f'):=by
 intro s r e
 unfold Pm.bind at *
 cases hx:x s with
 | none=>rw[hx] at e;cases e
 | some q=>
  rw[hx] at e
  rw[h s q hx]
  match q,e with
  | .error q,e=>exact e
  | .ok (a,s'),e=>exact g a s' r e
theorem Pm.Le.ite{α:Type}{c:Prop}[Decidable c]{x x' y y':Pm α}(h:Pm.Le x x')(g:Pm.Le y y'):Pm.Le (if c then x else y) (if c then x' else y'):=by
 split
 ·exact h
 ·exact g
theorem Na:∀n nt,Pm.Le (P n nt) (P (n+1) nt)
 | 0,nt=>λs r e=>by cases e
 | n+1,nt=>by
  have ih:=Na n
  cases nt <;> unfold P
  case pl=>
   refine Pm.Le.bind (ih _) λf=>Pm.Le.bind (Pm.Le.refl _) λz=>?_
   cases f with
   | nil=>exact Pm.Le.refl _
   | cons m ks r=>exact Pm.Le.ite (ih _) (Pm.Le.ite (ih _) (Pm.Le.refl _))
  all_goals (repeat (first|exact ih _|exact Pm.Le.refl _|refine Pm.Le.bind ?_ (λ_=>?_)|refine Pm.Le.ite ?_ ?_))
theorem F4{n m:Nat}(h:n<=m)(nt:Nt):Pm.Le (P n nt) (P m nt):=by
 induction m with
 | zero=>rw[Nat.le_zero.1 h];exact Pm.Le.refl _
 | succ m ih=>
  by_cases e:n=m+1
  ·rw[e];exact Pm.Le.refl _
  ·exact(ih (by omega)).trans (Na m nt)
theorem Qw{n m:Nat}{nt:Nt}{s:Cs}{r q:Rs Fo}(h:P n nt s=some r)(g:P m nt s=some q):r=q:=by
 have h1:=F4 (Nat.le_max_left n m) nt s r h
 have g1:=F4 (Nat.le_max_right n m) nt s q g
 rw[h1] at g1
 exact Option.some.inj g1
set_option linter.unusedVariables false
def Fz{α:Type}(F:Nat->Pm α)(s:Cs)(d:Nat):Prop:=∃n r,(∀m,n<=m->F m s=some r)/\∀a s',r=.ok (a,s')->s'.r.length+d<=s.r.length
section
variable {α β:Type} {F:Nat->Pm α} {s:Cs} {d e:Nat}
theorem Fz.less(h:Fz F s d)(he:e<=d):Fz F s e:=by
 obtain⟨n,r,h1,h2⟩:=h
 exact⟨n,r,h1,λa s' q=>by have:=h2 a s' q;omega⟩
theorem Fz.bind{G:α->Nat->Pm β}(h:Fz F s d)(g:∀a s',s'.r.length+d<=s.r.length->Fz (G a) s' (e-d)):Fz (λm=>(F m).bind λa=>G a m) s e:=by
 obtain⟨n,r,h1,h2⟩:=h
 match r,h1,h2 with
 | .error x,h1,_=>exact⟨n,.error x,λm hm=>by simp only[Pm.bind,h1 m hm],λa s' q=>by cases q⟩
 | .ok (a,s'),h1,h2=>
  have hs:=h2 a s' rfl
  obtain⟨n',r',g1,g2⟩:=g a s' hs
  refine⟨max n n',r',λm hm=>?_,λb s2 q=>?_⟩
  ·simp only[Pm.bind,h1 m (by omega)]
   exact g1 m (by omega)
  ·have:=g2 b s2 q
   omega
theorem Fz.const{x:Pm α}{r:Rs α}(h:x s=some r)(hr:∀a s',r=.ok (a,s')->s'.r.length+d<=s.r.length):Fz (λ_=>x) s d:=⟨0,r,λ_ _=>h,hr⟩
theorem Fz.pure(a:α):Fz (λ_=>Pm.pure a) s 0:=Fz.const (r:=.ok (a,s)) rfl (by rintro a s' h;cases h;omega)
theorem Fz.fail(x:jv):Fz (λ_=>(lN x:Pm α)) s d:=Fz.const (r:=.error x) rfl (by rintro a s' h;cases h)
theorem Fz.ite{c:Prop}[Decidable c]{G:Nat->Pm α}(h:c->Fz F s d)(g:¬c->Fz G s d):Fz (λm=>if c then F m else G m) s d:=by
 by_cases hc:c
 ·obtain⟨n,r,h1,h2⟩:=h hc
  exact⟨n,r,λm hm=>by simp only[hc,if_true];exact h1 m hm,h2⟩
 ·obtain⟨n,r,h1,h2⟩:=g hc
  exact⟨n,r,λm hm=>by simp only[hc,if_false];exact h1 m hm,h2⟩
end
section
variable {s:Cs}
theorem Fz.iZ:Fz (λ_=>dW) s 0:=by
 cases h:look s with
 | error x=>exact Fz.const (r:=.error x) (by simp only[dW,h]) (by rintro a s' q;cases q)
 | ok y=>exact Fz.const (r:=.ok (y,s)) (by simp only[dW,h]) (by rintro a s' q;cases q;omega)
theorem Fz.kU:Fz (λ_=>eG) s 1:=by
 cases h:look s with
 | error x=>exact Fz.const (r:=.error x) (by simp only[eG,h]) (by rintro a s' q;cases q)
 | ok y=>
  refine Fz.const (r:=.ok (y,behind y s)) (by simp only[eG,h]) ?_
  rintro a s' q
  cases q
  unfold look at h
  cases hr:s.r with
  | nil=>rw[hr] at h;cases h
  | cons z l=>simp[behind,hr]
theorem Fz.fq(t:ByteArray):Fz (λ_=>dw t) s 1:=by
 unfold dw
 exact Fz.bind (e:=1) Fz.iZ λy s' h=>Fz.ite (λ_=>Fz.kU) (λ_=>Fz.fail _)
theorem Fz.uN:Fz (λ_=>kX) s 1:=by
 unfold kX
 exact Fz.bind (e:=1) Fz.iZ λy s' h=>Fz.ite (λ_=>Fz.kU) (λ_=>Fz.fail _)
theorem Fz.stF:Fz (λ_=>stM) s 0:=Fz.const (r:=.ok (s,s)) rfl (by rintro a s' q;cases q;omega)
end
theorem Fz.step{nt:Nt}{s:Cs}{d:Nat}(h:Fz (λm=>P (m+1) nt) s d):Fz (λm=>P m nt) s d:=by
 obtain⟨n,r,h1,h2⟩:=h
 refine⟨n+1,r,λm hm=>?_,h2⟩
 obtain⟨k,rfl⟩:∃k,m=k+1:=⟨m-1,by omega⟩
 exact h1 k (by omega)
def least:Nt->Nat
 | .xB _=>0
 | .xH _=>0
 | .xM _ _=>0
 | .wI _=>0
 | .pg _=>0
 | _=>1
def Al(L:Nat):Prop:=∀s:Cs,s.r.length<L->∀nt,Fz (λm=>P m nt) s (least nt)
section
variable {L:Nat} {s:Cs}
theorem NV(h:Al L)(hs:s.r.length<=L)(l:Fo):Fz (λm=>P m (.xB l)) s 0:=by
 refine Fz.step ?_
 simp only[P]
 exact Fz.bind Fz.iZ λy s1 h1=>Fz.ite (λ_=>Fz.bind Fz.kU λy s2 h2=>Fz.bind ((h s2 (by omega) .cj).less (aH _)) λr s3 h3=>h s3 (by omega) (.xB _)) (λ_=>Fz.pure l)
theorem NY(h:Al L)(hs:s.r.length<=L)(l:Fo):Fz (λm=>P m (.xH l)) s 0:=by
 refine Fz.step ?_
 simp only[P]
 exact Fz.bind Fz.iZ λy s1 h1=>Fz.ite (λ_=>Fz.bind Fz.kU λy s2 h2=>Fz.bind ((h s2 (by omega) .ng).less (aH _)) λr s3 h3=>h s3 (by omega) (.xH _)) (λ_=>Fz.pure l)
theorem NZ(h:Al L)(hs:s.r.length<=L)(k:Nat)(l:Fo):Fz (λm=>P m (.xM k l)) s 0:=by
 refine Fz.step ?_
 simp only[P]
 exact Fz.bind Fz.iZ λy s1 h1=>Fz.ite (λ_=>Fz.bind Fz.kU λy s2 h2=>Fz.bind ((h s2 (by omega) (.bn (k+1))).less (aH _)) λr s3 h3=>h s3 (by omega) (.xM k _)) (λ_=>Fz.pure l)
theorem NT(h:Al L)(hs:s.r.length<=L)(l:Fo):Fz (λm=>P m (.wI l)) s 0:=by
 refine Fz.step ?_
 simp only[P]
 exact Fz.bind Fz.iZ λy s1 h1=>Fz.ite (λ_=>Fz.bind Fz.kU λy s2 h2=>Fz.bind ((h s2 (by omega) .ex).less (aH _)) λr s3 h3=>Fz.bind ((Fz.fq _).less (aH _)) λ_ s4 h4=>h s4 (by omega) (.wI _)) (λ_=>Fz.pure l)
theorem Qk(h:Al L)(hs:s.r.length<=L):Fz (λm=>P m .nm) s 1:=by
 refine Fz.step ?_
 simp only[P]
 exact Fz.bind Fz.uN λy s1 h1=>Fz.bind Fz.iZ λz s2 h2=>Fz.ite (λ_=>Fz.bind ((h s2 (by omega) (.ls false)).less (aH _)) λl s3 h3=>Fz.pure _) (λ_=>Fz.pure _)
theorem Qc:Fz (λm=>P m .wd) s 1:=by
 refine Fz.step ?_
 simp only[P]
 exact Fz.bind Fz.iZ λy s1 h1=>Fz.ite (λ_=>Fz.bind Fz.kU λy s2 h2=>Fz.pure _) (λ_=>Fz.ite (λ_=>Fz.bind Fz.kU λy s2 h2=>Fz.pure _) (λ_=>Fz.bind (Fz.fq _) λy s2 h2=>Fz.pure _))
theorem Qf(h:Al L)(hs:s.r.length<=L):Fz (λm=>P m .pr) s 1:=by
 refine Fz.step ?_
 simp only[P]
 exact Fz.bind Fz.iZ λy s1 h1=>Fz.ite (λ_=>Fz.bind Fz.kU λy s2 h2=>Fz.pure _) (λ_=>Fz.ite (λ_=>Fz.bind Fz.kU λy s2 h2=>Fz.pure _) (λ_=>Fz.ite (λ_=>Fz.bind Fz.kU λy s2 h2=>Fz.pure _) (λ_=>Fz.ite (λ_=>Qk h (by omega)) (λ_=>Fz.ite (λ_=>Qc) (λ_=>Fz.bind (Fz.fq _) λ_ s2 h2=>Fz.bind ((h s2 (by omega) .ex).less (aH _)) λi s3 h3=>Fz.bind ((Fz.fq _).less (aH _)) λ_ s4 h4=>Fz.pure _)))))
theorem Qg(h:Al L)(hs:s.r.length<=L):Fz (λm=>P m .po) s 1:=by
 refine Fz.step ?_
 simp only[P]
 exact Fz.bind (Qf h hs) λl s1 h1=>NT h (by omega) l
theorem NS(h:Al L)(hs:s.r.length<=L):Fz (λm=>P m .un) s 1:=by
 refine Fz.step ?_
 simp only[P]
 exact Fz.bind Fz.iZ λy s1 h1=>Fz.ite (λ_=>Fz.bind Fz.kU λy s2 h2=>Fz.bind ((h s2 (by omega) .un).less (aH _)) λk s3 h3=>Fz.pure _) (λ_=>Qg h (by omega))
theorem Gl(h:Al L):∀ (j k:Nat) (s:Cs),s.r.length<=L->7<=k+j->Fz (λm=>P m (.bn k)) s 1
 | 0,k,s,hs,hk=>by
  refine Fz.step ?_
  simp only[P]
  exact Fz.ite (λ_=>NS h hs) (λc=>by omega)
 | j+1,k,s,hs,hk=>by
  refine Fz.step ?_
  simp only[P]
  exact Fz.ite (λ_=>NS h hs) (λ_=>Fz.bind (Gl h j (k+1) s hs (by omega)) λl s1 h1=>NZ h (by omega) k l)
theorem Qs(h:Al L)(hs:s.r.length<=L):Fz (λm=>P m .cm) s 1:=by
 refine Fz.step ?_
 simp only[P]
 exact Fz.bind (Gl h 6 1 s hs (by omega)) λl s1 h1=>Fz.bind Fz.iZ λy s2 h2=>Fz.ite (λ_=>Fz.bind (Fz.kU.less (aH _)) λy s3 h3=>Fz.bind ((Gl h 6 1 s3 (by omega) (by omega)).less (aH _)) λr s4 h4=>Fz.pure _) (λ_=>Fz.pure l)
theorem Ql(h:Al L)(hs:s.r.length<=L):Fz (λm=>P m .ng) s 1:=by
 refine Fz.step ?_
 simp only[P]
 exact Fz.bind Fz.iZ λy s1 h1=>Fz.ite (λ_=>Fz.bind Fz.kU λy s2 h2=>Fz.bind ((h s2 (by omega) .ng).less (aH _)) λk s3 h3=>Fz.pure _) (λ_=>Qs h (by omega))
theorem Qt(h:Al L)(hs:s.r.length<=L):Fz (λm=>P m .cj) s 1:=by
 refine Fz.step ?_
 simp only[P]
 exact Fz.bind (Ql h hs) λl s1 h1=>NY h (by omega) l
theorem NW(h:Al L)(hs:s.r.length<=L):Fz (λm=>P m .ex) s 1:=by
 refine Fz.step ?_
 simp only[P]
 exact Fz.bind (Qt h hs) λl s1 h1=>NV h (by omega) l
theorem Qh:Fz (λm=>P m .pm) s 1:=by
 refine Fz.step ?_
 simp only[P]
 exact Fz.bind Fz.uN λy s1 h1=>Fz.pure _
theorem Tt(h:Al L)(hs:s.r.length<=L)(p:Bool)(l:Fo):Fz (λm=>P m (.oq p l)) s 1:=by
 refine Fz.step ?_
 simp only[P]
 refine Fz.bind Fz.iZ λy s1 h1=>Fz.ite (λ_=>Fz.bind (Fz.fq _) λ_ s2 h2=>Fz.pure _) (λ_=>Fz.bind (d:=0) (Fz.ite (λ_=>Fz.pure _) (λ_=>(Fz.fq _).less (aH _))) λ_ s2 h2=>?_)
 refine Fz.bind (d:=1) ?_ λx s3 h3=>(h s3 (by omega) (.oq p _)).less (aH _)
 cases p
 ·exact NW h (by omega)
 ·exact Qh
theorem Wy(h:Al L)(hs:s.r.length<=L)(p:Bool):Fz (λm=>P m (.ls p)) s 1:=by
 refine Fz.step ?_
 simp only[P]
 exact Fz.bind (Fz.fq _) λ_ s1 h1=>(h s1 (by omega) (.oq p _)).less (aH _)
theorem Qp:Fz (λm=>P m .gl) s 1:=by
 refine Fz.step ?_
 simp only[P]
 exact Fz.bind (Fz.fq _) λ_ s1 h1=>Fz.bind (Fz.uN.less (aH _)) λy s2 h2=>Fz.bind ((Fz.fq _).less (aH _)) λ_ s3 h3=>Fz.pure _
theorem Qq(h:Al L)(hs:s.r.length<=L):Fz (λm=>P m .fu) s 1:=by
 refine Fz.step ?_
 simp only[P]
 exact Fz.bind (Fz.fq _) λ_ s1 h1=>Fz.bind (Fz.uN.less (aH _)) λy s2 h2=>Fz.bind ((h s2 (by omega) (.ls true)).less (aH _)) λl s3 h3=>Fz.bind ((h s3 (by omega) .bl).less (aH _)) λb s4 h4=>Fz.pure _
theorem Wx(h:Al L)(hs:s.r.length<=L)(l:Fo):Fz (λm=>P m (.pg l)) s 0:=by
 refine Fz.step ?_
 simp only[P]
 refine Fz.bind Fz.iZ λy s1 h1=>Fz.ite (λ_=>Fz.pure _) (λ_=>Fz.bind (d:=1) ?_ λx s2 h2=>h s2 (by omega) (.pg _))
 split
 ·exact Qp
 ·exact Qq h (by omega)
theorem Wz(h:Al L)(hs:s.r.length<=L):Fz (λm=>P m .bl) s 1:=by
 refine Fz.step ?_
 simp only[P]
 exact Fz.bind (Fz.fq _) λy s1 h1=>Fz.bind ((h s1 (by omega) (.zU _)).less (aH _)) λl s2 h2=>Fz.pure _
theorem Qm(h:Al L)(hs:s.r.length<=L):Fz (λm=>P m .lt) s 1:=by
 refine Fz.step ?_
 simp only[P]
 exact Fz.bind (Fz.fq _) λ_ s1 h1=>Fz.bind (Fz.uN.less (aH _)) λy s2 h2=>Fz.bind ((Fz.fq _).less (aH _)) λ_ s3 h3=>Fz.bind ((h s3 (by omega) .ex).less (aH _)) λv s4 h4=>Fz.bind ((Fz.fq _).less (aH _)) λ_ s5 h5=>Fz.pure _
theorem Qo(h:Al L)(hs:s.r.length<=L):Fz (λm=>P m .iF) s 1:=by
 refine Fz.step ?_
 simp only[P]
 refine Fz.bind (Fz.fq _) λy s1 h1=>Fz.bind ((h s1 (by omega) .ex).less (aH _)) λc s2 h2=>Fz.bind ((h s2 (by omega) .bl).less (aH _)) λb s3 h3=>Fz.bind Fz.iZ λz s4 h4=>Fz.ite (λ_=>Fz.bind (Fz.kU.less (aH _)) λ_ s5 h5=>Fz.bind Fz.iZ λz s6 h6=>Fz.bind (d:=0) ?_ λd s7 h7=>Fz.pure _) (λ_=>Fz.pure _)
 exact(h s6 (by omega) _).less (aH _)
theorem Qb(h:Al L)(hs:s.r.length<=L):Fz (λm=>P m .wh) s 1:=by
 refine Fz.step ?_
 simp only[P]
 exact Fz.bind (Fz.fq _) λy s1 h1=>Fz.bind ((h s1 (by omega) .ex).less (aH _)) λc s2 h2=>Fz.bind ((h s2 (by omega) .bl).less (aH _)) λb s3 h3=>Fz.pure _
theorem Qr(h:Al L)(hs:s.r.length<=L):Fz (λm=>P m .fr) s 1:=by
 refine Fz.step ?_
 simp only[P]
 exact Fz.bind (Fz.fq _) λy s1 h1=>Fz.bind (Fz.uN.less (aH _)) λv s2 h2=>Fz.bind ((Fz.fq _).less (aH _)) λ_ s3 h3=>Fz.bind ((h s3 (by omega) .ex).less (aH _)) λf s4 h4=>Fz.bind ((Fz.fq _).less (aH _)) λ_ s5 h5=>Fz.bind ((h s5 (by omega) .ex).less (aH _)) λt s6 h6=>Fz.bind ((h s6 (by omega) .bl).less (aH _)) λb s7 h7=>Fz.pure _
theorem Qn(h:Al L)(hs:s.r.length<=L):Fz (λm=>P m .lb) s 1:=by
 refine Fz.step ?_
 simp only[P]
 exact Fz.bind Fz.uN λy s1 h1=>Fz.bind ((Fz.fq _).less (aH _)) λ_ s2 h2=>Fz.bind Fz.iZ λz s3 h3=>Fz.ite (λ_=>Fz.bind ((h s3 (by omega) .fr).less (aH _)) λf s4 h4=>Fz.pure _) (λ_=>Fz.bind ((h s3 (by omega) .wh).less (aH _)) λf s4 h4=>Fz.pure _)
theorem NU(k:Int):Fz (λm=>P m (.jm k)) s 1:=by
 refine Fz.step ?_
 simp only[P]
 exact Fz.bind Fz.kU λy s1 h1=>Fz.bind Fz.iZ λz s2 h2=>Fz.ite (λ_=>Fz.bind ((Fz.fq _).less (aH _)) λ_ s3 h3=>Fz.pure _) (λ_=>Fz.bind (Fz.uN.less (aH _)) λv s3 h3=>Fz.bind ((Fz.fq _).less (aH _)) λ_ s4 h4=>Fz.pure _)
theorem Qe(h:Al L)(hs:s.r.length<=L):Fz (λm=>P m .rt) s 1:=by
 refine Fz.step ?_
 simp only[P]
 exact Fz.bind (Fz.fq _) λy s1 h1=>Fz.bind Fz.iZ λz s2 h2=>Fz.ite (λ_=>Fz.bind ((Fz.fq _).less (aH _)) λ_ s3 h3=>Fz.pure _) (λ_=>Fz.bind ((h s2 (by omega) .ex).less (aH _)) λv s3 h3=>Fz.bind ((Fz.fq _).less (aH _)) λ_ s4 h4=>Fz.pure _)
theorem Qj(h:Al L)(hs:s.r.length<=L):Fz (λm=>P m .ou) s 1:=by
 refine Fz.step ?_
 simp only[P]
 exact Fz.bind (Fz.fq _) λy s1 h1=>Fz.bind ((h s1 (by omega) .ex).less (aH _)) λv s3 h3=>Fz.bind ((Fz.fq _).less (aH _)) λ_ s4 h4=>Fz.pure _
theorem Tw(h:Al L)(hs:s.r.length<=L)(m:Nd)(ks:Fo):Fz (λk=>P k (.D6 m ks)) s 1:=by
 refine Fz.step ?_
 simp only[P]
 exact Fz.bind (Fz.fq _) λy s1 h1=>Fz.bind ((h s1 (by omega) .ex).less (aH _)) λv s3 h3=>Fz.bind ((Fz.fq _).less (aH _)) λ_ s4 h4=>Fz.pure _
theorem Qi(h:Al L)(hs:s.r.length<=L):Fz (λm=>P m .pl) s 1:=by
 refine Fz.step ?_
 simp only[P]
 refine Fz.bind (NW h hs) λf s1 h1=>Fz.bind Fz.iZ λz s2 h2=>?_
 cases f with
 | nil=>exact Fz.pure _
 | cons m ks r=>exact Fz.ite (λ_=>(h s2 (by omega) (.D6 _ _)).less (aH _)) (λ_=>Fz.ite (λ_=>(h s2 (by omega) (.D6 _ _)).less (aH _)) (λ_=>Fz.bind ((Fz.fq _).less (aH _)) λ_ s3 h3=>Fz.pure _))
theorem Qd(h:Al L)(hs:s.r.length<=L):Fz (λm=>P m .st) s 1:=by
 refine Fz.step ?_
 simp only[P]
 exact Fz.bind Fz.iZ λy s1 h1=>Fz.ite (λ_=>Qm h (by omega)) λ_=>Fz.ite (λ_=>Qo h (by omega)) λ_=>Fz.ite (λ_=>Qb h (by omega)) λ_=>Fz.ite (λ_=>Qr h (by omega)) λ_=>Fz.ite (λ_=>NU _) λ_=>Fz.ite (λ_=>NU _) λ_=>Fz.ite (λ_=>Qe h (by omega)) λ_=>Fz.ite (λ_=>Qj h (by omega)) λ_=>Fz.bind Fz.stF λq s2 h2=>Fz.ite (λ_=>Qn h (by omega)) λ_=>Qi h (by omega)
theorem Tv(h:Al L)(hs:s.r.length<=L)(l:Fo):Fz (λm=>P m (.zU l)) s 1:=by
 refine Fz.step ?_
 simp only[P]
 exact Fz.bind Fz.iZ λy s1 h1=>Fz.ite (λ_=>Fz.bind (Fz.fq _) λ_ s2 h2=>Fz.pure _) (λ_=>Fz.bind (Qd h (by omega)) λx s2 h2=>(h s2 (by omega) (.zU _)).less (aH _))
end
theorem F3:∀L,Al L
 | 0=>λs hs=>by omega
 | L+1=>λs hs nt=>by
  have h:=F3 L
  have hs:s.r.length<=L:=by omega
  cases nt with
  | ex=>exact NW h hs
  | xB l=>exact NV h hs l
  | cj=>exact Qt h hs
  | xH l=>exact NY h hs l
  | ng=>exact Ql h hs
  | cm=>exact Qs h hs
  | bn k=>exact Gl h 7 k s hs (by omega)
  | xM k l=>exact NZ h hs k l
  | un=>exact NS h hs
  | po=>exact Qg h hs
  | wI l=>exact NT h hs l
  | pr=>exact Qf h hs
  | nm=>exact Qk h hs
  | wd=>exact Qc
  | ls p=>exact Wy h hs p
  | oq p l=>exact Tt h hs p l
  | pm=>exact Qh
  | gl=>exact Qp
  | fu=>exact Qq h hs
  | pg l=>exact Wx h hs l
  | bl=>exact Wz h hs
  | zU l=>exact Tv h hs l
  | st=>exact Qd h hs
  | lt=>exact Qm h hs
  | iF=>exact Qo h hs
  | wh=>exact Qb h hs
  | fr=>exact Qr h hs
  | lb=>exact Qn h hs
  | jm k=>exact NU k
  | rt=>exact Qe h hs
  | ou=>exact Qj h hs
  | pl=>exact Qi h hs
  | D6 m ks=>exact Tw h hs m ks
theorem Tz(nt:Nt)(s:Cs):∃n r,P n nt s=some r:=by
 obtain⟨n,r,h,_⟩:=F3 (s.r.length+1) s (by omega) nt
 exact⟨n,r,h n (Nat.le_refl _)⟩
end Go.Proofs.YtgchnkgolclmgaaGreatDoor.W.Tr
