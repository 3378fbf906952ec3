import Derived.Test.YtjplieobnknnpaaGreatDoorJC
open Nat renaming zero_le → z0z
set_option maxRecDepth 1000000
set_option maxHeartbeats 8000000
namespace Go.Proofs.YtjplieobnknnpaaGreatDoor.W.Tr
structure Nd where
 kind:Int
 a:Int
 text:ByteArray
 int:Int
 bits:Int
inductive Fo where
 | nil
 | cons (n:Nd) (ks r:Fo)
def Fo.app:Fo->Fo->Fo
 | .nil,g=>g
 | .cons n ks r,g=>.cons n ks (r.app g)
def Fo.len:Fo->Nat
 | .nil=>0
 | .cons _ _ r=>r.len+1
def Fo.one(n:Nd)(ks:Fo):Fo:=.cons n ks .nil
structure Cs where
 r:List Yd
 o:Int
abbrev Ci:=Int × Int
abbrev Rs(α:Type):=Except Ci (α × Cs)
abbrev bJ:ByteArray:=⟨#[111,114]⟩
abbrev dS:ByteArray:=⟨#[97,110,100]⟩
abbrev Zm:ByteArray:=⟨#[110,111,116]⟩
abbrev OM:ByteArray:=⟨#[40]⟩
abbrev NJ:ByteArray:=⟨#[41]⟩
abbrev Uj:ByteArray:=⟨#[91]⟩
abbrev dQ:ByteArray:=⟨#[93]⟩
abbrev Zt:ByteArray:=⟨#[123]⟩
abbrev PK:ByteArray:=⟨#[125]⟩
abbrev VD:ByteArray:=⟨#[45]⟩
abbrev SX:ByteArray:=⟨#[126]⟩
abbrev bG:ByteArray:=⟨#[116,114,117,101]⟩
abbrev gG:ByteArray:=⟨#[102,97,108,115,101]⟩
abbrev ABA:ByteArray:=⟨#[110,105,108]⟩
abbrev Lh:ByteArray:=⟨#[108,101,116]⟩
abbrev Gx:ByteArray:=⟨#[59]⟩
abbrev ug:ByteArray:=⟨#[102,110]⟩
abbrev Yj:ByteArray:=⟨#[44]⟩
abbrev Oq:ByteArray:=⟨#[105,102]⟩
abbrev Rv:ByteArray:=⟨#[119,104,105,108,101]⟩
abbrev Na:ByteArray:=⟨#[102,111,114]⟩
abbrev dP:ByteArray:=⟨#[98,114,101,97,107]⟩
abbrev aG:ByteArray:=⟨#[99,111,110,116,105,110,117,101]⟩
abbrev TY:ByteArray:=⟨#[114,101,116,117,114,110]⟩
abbrev VH:ByteArray:=⟨#[111,117,116]⟩
abbrev aQ:ByteArray:=⟨#[101,108,115,101]⟩
abbrev k_in:ByteArray:=⟨#[105,110]⟩
abbrev iA:ByteArray:=⟨#[46,46]⟩
abbrev aW:ByteArray:=⟨#[58]⟩
abbrev Kz:ByteArray:=⟨#[61]⟩
def AP(t:Tk):ByteArray:=if t.kind=2\/t.kind=3 then t.text else ⟨#[]⟩
def Gm(t:Tk):Bool:=AP t=OM||AP t=Uj||AP t=Zt
def J8(t:Tk):Bool:=AP t=NJ||AP t=dQ||AP t=PK
def look(s:Cs):Except Ci Yd:=match s.r with
 | []=>.error (0,0)
 | y::_=>if y.c=0 then (if Gm y.t=true/\s.o=64 then .error (71,y.a) else .ok y) else .error (y.c,y.f)
def behind(y:Yd)(s:Cs):Cs:=⟨s.r.tail,s.o+(if Gm y.t=true then 1 else 0)-(if J8 y.t=true then 1 else 0)⟩
def Pm(α:Type):=Cs->Option (Rs α)
def Pm.pure{α:Type}(a:α):Pm α:=λs=>some (.ok (a,s))
def Pm.bind{α β:Type}(x:Pm α)(f:α->Pm β):Pm β:=λs=>match x s with
 | none=>none
 | some (.error e)=>some (.error e)
 | some (.ok (a,s'))=>f a s'
def BJ:Pm Yd:=λs=>match look s with
 | .error e=>some (.error e)
 | .ok y=>some (.ok (y,s))
def Bf:Pm Yd:=λs=>match look s with
 | .error e=>some (.error e)
 | .ok y=>some (.ok (y,behind y s))
def JO{α:Type}(e:Ci):Pm α:=λ_=>some (.error e)
def Bg(t:ByteArray):Pm Yd:=BJ.bind λy=>if AP y.t=t then Bf else JO (70,y.a)
def Er:Pm Yd:=BJ.bind λy=>if y.t.kind=1 then Bf else JO (70,y.a)
def Ap(k:Int)(y:Yd):Nd:=⟨k,y.a,⟨#[]⟩,0,0⟩
def BD(k:Int)(y:Yd):Nd:=⟨k,y.a,y.t.text,y.t.int,y.t.bits⟩
def tight(t:ByteArray):Nat:=if t=⟨#[124]⟩ then 1 else if t=⟨#[94]⟩ then 2 else if t=⟨#[38]⟩ then 3 else if t=⟨#[60,60]⟩\/t=⟨#[62,62]⟩ then 4 else if t=⟨#[43]⟩\/t=⟨#[45]⟩ then 5 else if t=⟨#[42]⟩\/t=⟨#[47]⟩\/t=⟨#[47,47]⟩\/t=⟨#[37]⟩ then 6 else 0
def comp(t:ByteArray):Bool:=t=⟨#[61,61]⟩||t=⟨#[33,61]⟩||t=⟨#[60]⟩||t=⟨#[60,61]⟩||t=⟨#[62]⟩||t=⟨#[62,61]⟩
def colon(s:Cs):Bool:=match s.r with
 | _::z::_=>z.c=0&&AP z.t=aW
 | _=>false
def stM:Pm Cs:=λs=>some (.ok (s,s))
inductive Nt where
 | ex|exT (l:Fo)|cj|cjT (l:Fo)|ng|cm|bn (k:Nat)|bnT (k:Nat) (l:Fo)|un|po|poT (l:Fo)|pr|nm|wd
 | ls (p:Bool)|lsT (p:Bool) (l:Fo)|pm|gl|fu|pg (l:Fo)|bl|blT (l:Fo)|st|lt|iF|wh|fr|lb|jm (k:Int)|rt|ou|pl|asg (n:Nd) (ks:Fo)
open Fo in
def P:Nat->Nt->Pm Fo
 | 0,_=>λ_=>none
 | n+1,.ex=>(P n .cj).bind λl=>P n (.exT l)
 | n+1,.exT l=>BJ.bind λy=>if AP y.t=bJ then Bf.bind λy=>(P n .cj).bind λr=>P n (.exT (one (Ap 18 y) (l.app r))) else Pm.pure l
 | n+1,.cj=>(P n .ng).bind λl=>P n (.cjT l)
 | n+1,.cjT l=>BJ.bind λy=>if AP y.t=dS then Bf.bind λy=>(P n .ng).bind λr=>P n (.cjT (one (Ap 19 y) (l.app r))) else Pm.pure l
 | n+1,.ng=>BJ.bind λy=>if AP y.t=Zm then Bf.bind λy=>(P n .ng).bind λk=>Pm.pure (one (Ap 20 y) k) else P n .cm
 | n+1,.cm=>(P n (.bn 1)).bind λl=>BJ.bind λy=>if comp (AP y.t)=true then Bf.bind λy=>(P n (.bn 1)).bind λr=>Pm.pure (one (BD 21 y) (l.app r)) else Pm.pure l
 | n+1,.bn k=>if 6<k then P n .un else (P n (.bn (k+1))).bind λl=>P n (.bnT k l)
 | n+1,.bnT k l=>BJ.bind λy=>if tight (AP y.t)=k then Bf.bind λy=>(P n (.bn (k+1))).bind λr=>P n (.bnT k (one (BD 21 y) (l.app r))) else Pm.pure l
 | n+1,.un=>BJ.bind λy=>if AP y.t=VD\/AP y.t=SX then Bf.bind λy=>(P n .un).bind λk=>Pm.pure (one (BD 22 y) k) else P n .po
 | n+1,.po=>(P n .pr).bind λl=>P n (.poT l)
 | n+1,.poT l=>BJ.bind λy=>if AP y.t=Uj then Bf.bind λy=>(P n .ex).bind λi=>(Bg dQ).bind λ_=>P n (.poT (one (Ap 24 y) (l.app i))) else Pm.pure l
 | n+1,.pr=>BJ.bind λy=>if y.t.kind=4 then Bf.bind λy=>Pm.pure (one (BD 26 y) nil) else if y.t.kind=5 then Bf.bind λy=>Pm.pure (one (BD 27 y) nil) else if y.t.kind=6 then Bf.bind λy=>Pm.pure (one (BD 28 y) nil) else if y.t.kind=1 then P n .nm else if y.t.kind=2 then P n .wd else (Bg OM).bind λ_=>(P n .ex).bind λi=>(Bg NJ).bind λ_=>Pm.pure i
 | n+1,.nm=>Er.bind λy=>BJ.bind λz=>if AP z.t=OM then (P n (.ls false)).bind λl=>Pm.pure (one (BD 23 y) l) else Pm.pure (one (BD 25 y) nil)
 | _+1,.wd=>BJ.bind λy=>if AP y.t=bG then Bf.bind λy=>Pm.pure (one (Ap 29 y) nil) else if AP y.t=gG then Bf.bind λy=>Pm.pure (one (Ap 30 y) nil) else (Bg ABA).bind λy=>Pm.pure (one (Ap 31 y) nil)
 | n+1,.ls p=>(Bg OM).bind λ_=>P n (.lsT p nil)
 | n+1,.lsT p l=>BJ.bind λy=>if AP y.t=NJ then (Bg NJ).bind λ_=>Pm.pure l else (if l.len=0 then Pm.pure y else Bg Yj).bind λ_=>(P n (if p=true then .pm else .ex)).bind λx=>P n (.lsT p (l.app x))
 | _+1,.pm=>Er.bind λy=>Pm.pure (one (BD 4 y) nil)
 | _+1,.gl=>(Bg Lh).bind λ_=>Er.bind λy=>(Bg Gx).bind λ_=>Pm.pure (one (BD 2 y) nil)
 | n+1,.fu=>(Bg ug).bind λ_=>Er.bind λy=>(P n (.ls true)).bind λl=>(P n .bl).bind λb=>Pm.pure (one (BD 3 y) (l.app b))
 | n+1,.pg l=>BJ.bind λy=>if y.t.kind=7 then Pm.pure (one ⟨1,0,⟨#[]⟩,0,0⟩ l) else (P n (if AP y.t=Lh then .gl else .fu)).bind λx=>P n (.pg (l.app x))
 | n+1,.bl=>(Bg Zt).bind λy=>(P n (.blT nil)).bind λl=>Pm.pure (one (Ap 5 y) l)
 | n+1,.blT l=>BJ.bind λy=>if AP y.t=PK then (Bg PK).bind λ_=>Pm.pure l else (P n .st).bind λx=>P n (.blT (l.app x))
 | n+1,.st=>BJ.bind λy=>if AP y.t=Lh then P n .lt else if AP y.t=Oq then P n .iF else if AP y.t=Rv then P n .wh else if AP y.t=Na then P n .fr else if AP y.t=dP then P n (.jm 13) else if AP y.t=aG then P n (.jm 14) else if AP y.t=TY then P n .rt else if AP y.t=VH then P n .ou else stM.bind λs=>if y.t.kind=1/\colon s=true then P n .lb else P n .pl
 | n+1,.lt=>(Bg Lh).bind λ_=>Er.bind λy=>(Bg Kz).bind λ_=>(P n .ex).bind λv=>(Bg Gx).bind λ_=>Pm.pure (one (BD 6 y) v)
 | n+1,.iF=>(Bg Oq).bind λy=>(P n .ex).bind λc=>(P n .bl).bind λb=>BJ.bind λz=>if AP z.t=aQ then Bf.bind λ_=>BJ.bind λz=>(P n (if AP z.t=Oq then .iF else .bl)).bind λd=>Pm.pure (one (Ap 9 y) ((c.app b).app d)) else Pm.pure (one (Ap 9 y) (c.app b))
 | n+1,.wh=>(Bg Rv).bind λy=>(P n .ex).bind λc=>(P n .bl).bind λb=>Pm.pure (one (Ap 10 y) (c.app b))
 | n+1,.fr=>(Bg Na).bind λy=>Er.bind λv=>(Bg k_in).bind λ_=>(P n .ex).bind λf=>(Bg iA).bind λ_=>(P n .ex).bind λt=>(P n .bl).bind λb=>Pm.pure (one ⟨11,y.a,v.t.text,0,0⟩ ((f.app t).app b))
 | n+1,.lb=>Er.bind λy=>(Bg aW).bind λ_=>BJ.bind λz=>if AP z.t=Na then (P n .fr).bind λf=>Pm.pure (match f with | .cons m ks r=>.cons m ((one (BD 12 y) nil).app ks) r | .nil=>.nil) else (P n .wh).bind λf=>Pm.pure (match f with | .cons m ks r=>.cons ⟨m.kind,m.a,y.t.text,m.int,m.bits⟩ ks r | .nil=>.nil)
 | _+1,.jm k=>Bf.bind λy=>BJ.bind λz=>if AP z.t=Gx then (Bg Gx).bind λ_=>Pm.pure (one (Ap k y) nil) else Er.bind λv=>(Bg Gx).bind λ_=>Pm.pure (one ⟨k,y.a,v.t.text,0,0⟩ nil)
 | n+1,.rt=>(Bg TY).bind λy=>BJ.bind λz=>if AP z.t=Gx then (Bg Gx).bind λ_=>Pm.pure (one (Ap 15 y) nil) else (P n .ex).bind λv=>(Bg Gx).bind λ_=>Pm.pure (one (Ap 15 y) v)
 | n+1,.ou=>(Bg VH).bind λy=>(P n .ex).bind λv=>(Bg Gx).bind λ_=>Pm.pure (one (Ap 16 y) v)
 | n+1,.pl=>(P n .ex).bind λf=>BJ.bind λz=>match f with
  | .nil=>Pm.pure f
  | .cons m ks _=>if AP z.t=Kz/\m.kind=25 then P n (.asg ⟨7,m.a,m.text,m.int,m.bits⟩ ks) else if AP z.t=Kz/\m.kind=24 then P n (.asg ⟨8,m.a,m.text,m.int,m.bits⟩ ks) else (Bg Gx).bind λ_=>Pm.pure (one ⟨17,m.a,⟨#[]⟩,0,0⟩ f)
 | n+1,.asg m ks=>(Bg Kz).bind λ_=>(P n .ex).bind λv=>(Bg Gx).bind λ_=>Pm.pure (one m (ks.app v))
def Pm.Le{α:Type}(x y:Pm α):Prop:=∀s r,x s=some r->y s=some r
theorem Pm.Le.refl{α:Type}(x:Pm α):Pm.Le x x:=λ_ _ h=>h
theorem Pm.Le.trans{α:Type}{x y z:Pm α}(h:Pm.Le x y)(g:Pm.Le y z):Pm.Le x z:=λs r e=>g s r (h s r e)
theorem Pm.Le.bind{α β:Type}{x x':Pm α}{f f':α->Pm β}(h:Pm.Le x x')(g:∀a,Pm.Le (f a) (f' a)):Pm.Le (x.bind f) (x'.bind f'):=by
 intro s r e
 unfold Pm.bind at *
 cases hx:x s with
 | none=>rw[hx] at e;cases e
 | some q=>
  rw[hx] at e
  rw[h s q hx]
  match q,e with
  | .error q,e=>exact e
  | .ok (a,s'),e=>exact g a s' r e
theorem Pm.Le.ite{α:Type}{c:Prop}[Decidable c]{x x' y y':Pm α}(h:Pm.Le x x')(g:Pm.Le y y'):Pm.Le (if c then x else y) (if c then x' else y'):=by
 split
 ·exact h
 ·exact g
theorem aN:∀n nt,Pm.Le (P n nt) (P (n+1) nt)
 | 0,nt=>λs r e=>by cases e
 | n+1,nt=>by
  have ih:=aN n
  cases nt <;> unfold P
  case pl=>
   refine Pm.Le.bind (ih _) λf=>Pm.Le.bind (Pm.Le.refl _) λz=>?_
   cases f with
   | nil=>exact Pm.Le.refl _
   | cons m ks r=>exact Pm.Le.ite (ih _) (Pm.Le.ite (ih _) (Pm.Le.refl _))
  all_goals (repeat (first|exact ih _|exact Pm.Le.refl _|refine Pm.Le.bind ?_ (λ_=>?_)|refine Pm.Le.ite ?_ ?_))
theorem Yn{n m:Nat}(h:n<=m)(nt:Nt):Pm.Le (P n nt) (P m nt):=by
 induction m with
 | zero=>rw[Nat.le_zero.1 h];exact Pm.Le.refl _
 | succ m ih=>
  by_cases e:n=m+1
  ·rw[e];exact Pm.Le.refl _
  ·exact(ih (by omega)).trans (aN m nt)
theorem xW{n m:Nat}{nt:Nt}{s:Cs}{r q:Rs Fo}(h:P n nt s=some r)(g:P m nt s=some q):r=q:=by
 have h1:=Yn (Nat.le_max_left n m) nt s r h
 have g1:=Yn (Nat.le_max_right n m) nt s q g
 rw[h1] at g1
 exact Option.some.inj g1
set_option linter.unusedVariables false
def Fz{α:Type}(F:Nat->Pm α)(s:Cs)(d:Nat):Prop:=∃n r,(∀m,n<=m->F m s=some r)/\∀a s',r=.ok (a,s')->s'.r.length+d<=s.r.length
section
variable {α β:Type} {F:Nat->Pm α} {s:Cs} {d e:Nat}
theorem Fz.less(h:Fz F s d)(he:e<=d):Fz F s e:=by
 obtain⟨n,r,h1,h2⟩:=h
 exact⟨n,r,h1,λa s' q=>by have:=h2 a s' q;omega⟩
theorem Fz.bind{G:α->Nat->Pm β}(h:Fz F s d)(g:∀a s',s'.r.length+d<=s.r.length->Fz (G a) s' (e-d)):Fz (λm=>(F m).bind λa=>G a m) s e:=by
 obtain⟨n,r,h1,h2⟩:=h
 match r,h1,h2 with
 | .error x,h1,_=>exact⟨n,.error x,λm hm=>by simp only[Pm.bind,h1 m hm],λa s' q=>by cases q⟩
 | .ok (a,s'),h1,h2=>
  have hs:=h2 a s' rfl
  obtain⟨n',r',g1,g2⟩:=g a s' hs
  refine⟨max n n',r',λm hm=>?_,λb s2 q=>?_⟩
  ·simp only[Pm.bind,h1 m (by omega)]
   exact g1 m (by omega)
  ·have:=g2 b s2 q
   omega
theorem Fz.const{x:Pm α}{r:Rs α}(h:x s=some r)(hr:∀a s',r=.ok (a,s')->s'.r.length+d<=s.r.length):Fz (λ_=>x) s d:=⟨0,r,λ_ _=>h,hr⟩
theorem Fz.pure(a:α):Fz (λ_=>Pm.pure a) s 0:=Fz.const (r:=.ok (a,s)) rfl (by rintro a s' h;cases h;omega)
theorem Fz.fail(x:Ci):Fz (λ_=>(JO x:Pm α)) s d:=Fz.const (r:=.error x) rfl (by rintro a s' h;cases h)
theorem Fz.ite{c:Prop}[Decidable c]{G:Nat->Pm α}(h:c->Fz F s d)(g:¬c->Fz G s d):Fz (λm=>if c then F m else G m) s d:=by
 by_cases hc:c
 ·obtain⟨n,r,h1,h2⟩:=h hc
  exact⟨n,r,λm hm=>by simp only[hc,if_true];exact h1 m hm,h2⟩
 ·obtain⟨n,r,h1,h2⟩:=g hc
  exact⟨n,r,λm hm=>by simp only[hc,if_false];exact h1 m hm,h2⟩
end
section
variable {s:Cs}
theorem Fz.lookF:Fz (λ_=>BJ) s 0:=by
 cases h:look s with
 | error x=>exact Fz.const (r:=.error x) (by simp only[BJ,h]) (by rintro a s' q;cases q)
 | ok y=>exact Fz.const (r:=.ok (y,s)) (by simp only[BJ,h]) (by rintro a s' q;cases q;omega)
theorem Fz.takeF:Fz (λ_=>Bf) s 1:=by
 cases h:look s with
 | error x=>exact Fz.const (r:=.error x) (by simp only[Bf,h]) (by rintro a s' q;cases q)
 | ok y=>
  refine Fz.const (r:=.ok (y,behind y s)) (by simp only[Bf,h]) ?_
  rintro a s' q
  cases q
  unfold look at h
  cases hr:s.r with
  | nil=>rw[hr] at h;cases h
  | cons z l=>simp[behind,hr]
theorem Fz.wantF(t:ByteArray):Fz (λ_=>Bg t) s 1:=by
 unfold Bg
 exact Fz.bind (e:=1) Fz.lookF λy s' h=>Fz.ite (λ_=>Fz.takeF) (λ_=>Fz.fail _)
theorem Fz.nameF:Fz (λ_=>Er) s 1:=by
 unfold Er
 exact Fz.bind (e:=1) Fz.lookF λy s' h=>Fz.ite (λ_=>Fz.takeF) (λ_=>Fz.fail _)
theorem Fz.stF:Fz (λ_=>stM) s 0:=Fz.const (r:=.ok (s,s)) rfl (by rintro a s' q;cases q;omega)
end
theorem Fz.step{nt:Nt}{s:Cs}{d:Nat}(h:Fz (λm=>P (m+1) nt) s d):Fz (λm=>P m nt) s d:=by
 obtain⟨n,r,h1,h2⟩:=h
 refine⟨n+1,r,λm hm=>?_,h2⟩
 obtain⟨k,rfl⟩:∃k,m=k+1:=⟨m-1,by omega⟩
 exact h1 k (by omega)
def least:Nt->Nat
 | .exT _=>0
 | .cjT _=>0
 | .bnT _ _=>0
 | .poT _=>0
 | .pg _=>0
 | _=>1
def Al(L:Nat):Prop:=∀s:Cs,s.r.length<L->∀nt,Fz (λm=>P m nt) s (least nt)
section
variable {L:Nat} {s:Cs}
theorem Xd(h:Al L)(hs:s.r.length<=L)(l:Fo):Fz (λm=>P m (.exT l)) s 0:=by
 refine Fz.step ?_
 simp only[P]
 exact Fz.bind Fz.lookF λy s1 h1=>Fz.ite (λ_=>Fz.bind Fz.takeF λy s2 h2=>Fz.bind ((h s2 (by omega) .cj).less (z0z _)) λr s3 h3=>h s3 (by omega) (.exT _)) (λ_=>Fz.pure l)
theorem dF(h:Al L)(hs:s.r.length<=L)(l:Fo):Fz (λm=>P m (.cjT l)) s 0:=by
 refine Fz.step ?_
 simp only[P]
 exact Fz.bind Fz.lookF λy s1 h1=>Fz.ite (λ_=>Fz.bind Fz.takeF λy s2 h2=>Fz.bind ((h s2 (by omega) .ng).less (z0z _)) λr s3 h3=>h s3 (by omega) (.cjT _)) (λ_=>Fz.pure l)
theorem WR(h:Al L)(hs:s.r.length<=L)(k:Nat)(l:Fo):Fz (λm=>P m (.bnT k l)) s 0:=by
 refine Fz.step ?_
 simp only[P]
 exact Fz.bind Fz.lookF λy s1 h1=>Fz.ite (λ_=>Fz.bind Fz.takeF λy s2 h2=>Fz.bind ((h s2 (by omega) (.bn (k+1))).less (z0z _)) λr s3 h3=>h s3 (by omega) (.bnT k _)) (λ_=>Fz.pure l)
theorem dW(h:Al L)(hs:s.r.length<=L)(l:Fo):Fz (λm=>P m (.poT l)) s 0:=by
 refine Fz.step ?_
 simp only[P]
 exact Fz.bind Fz.lookF λy s1 h1=>Fz.ite (λ_=>Fz.bind Fz.takeF λy s2 h2=>Fz.bind ((h s2 (by omega) .ex).less (z0z _)) λr s3 h3=>Fz.bind ((Fz.wantF _).less (z0z _)) λ_ s4 h4=>h s4 (by omega) (.poT _)) (λ_=>Fz.pure l)
theorem gH(h:Al L)(hs:s.r.length<=L):Fz (λm=>P m .nm) s 1:=by
 refine Fz.step ?_
 simp only[P]
 exact Fz.bind Fz.nameF λy s1 h1=>Fz.bind Fz.lookF λz s2 h2=>Fz.ite (λ_=>Fz.bind ((h s2 (by omega) (.ls false)).less (z0z _)) λl s3 h3=>Fz.pure _) (λ_=>Fz.pure _)
theorem cO:Fz (λm=>P m .wd) s 1:=by
 refine Fz.step ?_
 simp only[P]
 exact Fz.bind Fz.lookF λy s1 h1=>Fz.ite (λ_=>Fz.bind Fz.takeF λy s2 h2=>Fz.pure _) (λ_=>Fz.ite (λ_=>Fz.bind Fz.takeF λy s2 h2=>Fz.pure _) (λ_=>Fz.bind (Fz.wantF _) λy s2 h2=>Fz.pure _))
theorem ZP(h:Al L)(hs:s.r.length<=L):Fz (λm=>P m .pr) s 1:=by
 refine Fz.step ?_
 simp only[P]
 exact Fz.bind Fz.lookF λy s1 h1=>Fz.ite (λ_=>Fz.bind Fz.takeF λy s2 h2=>Fz.pure _) (λ_=>Fz.ite (λ_=>Fz.bind Fz.takeF λy s2 h2=>Fz.pure _) (λ_=>Fz.ite (λ_=>Fz.bind Fz.takeF λy s2 h2=>Fz.pure _) (λ_=>Fz.ite (λ_=>gH h (by omega)) (λ_=>Fz.ite (λ_=>cO) (λ_=>Fz.bind (Fz.wantF _) λ_ s2 h2=>Fz.bind ((h s2 (by omega) .ex).less (z0z _)) λi s3 h3=>Fz.bind ((Fz.wantF _).less (z0z _)) λ_ s4 h4=>Fz.pure _)))))
theorem YZ(h:Al L)(hs:s.r.length<=L):Fz (λm=>P m .po) s 1:=by
 refine Fz.step ?_
 simp only[P]
 exact Fz.bind (ZP h hs) λl s1 h1=>dW h (by omega) l
theorem UQ(h:Al L)(hs:s.r.length<=L):Fz (λm=>P m .un) s 1:=by
 refine Fz.step ?_
 simp only[P]
 exact Fz.bind Fz.lookF λy s1 h1=>Fz.ite (λ_=>Fz.bind Fz.takeF λy s2 h2=>Fz.bind ((h s2 (by omega) .un).less (z0z _)) λk s3 h3=>Fz.pure _) (λ_=>YZ h (by omega))
theorem Pf(h:Al L):∀ (j k:Nat) (s:Cs),s.r.length<=L->7<=k+j->Fz (λm=>P m (.bn k)) s 1
 | 0,k,s,hs,hk=>by
  refine Fz.step ?_
  simp only[P]
  exact Fz.ite (λ_=>UQ h hs) (λc=>by omega)
 | j+1,k,s,hs,hk=>by
  refine Fz.step ?_
  simp only[P]
  exact Fz.ite (λ_=>UQ h hs) (λ_=>Fz.bind (Pf h j (k+1) s hs (by omega)) λl s1 h1=>WR h (by omega) k l)
theorem Zf(h:Al L)(hs:s.r.length<=L):Fz (λm=>P m .cm) s 1:=by
 refine Fz.step ?_
 simp only[P]
 exact Fz.bind (Pf h 6 1 s hs (by omega)) λl s1 h1=>Fz.bind Fz.lookF λy s2 h2=>Fz.ite (λ_=>Fz.bind (Fz.takeF.less (z0z _)) λy s3 h3=>Fz.bind ((Pf h 6 1 s3 (by omega) (by omega)).less (z0z _)) λr s4 h4=>Fz.pure _) (λ_=>Fz.pure l)
theorem fH(h:Al L)(hs:s.r.length<=L):Fz (λm=>P m .ng) s 1:=by
 refine Fz.step ?_
 simp only[P]
 exact Fz.bind Fz.lookF λy s1 h1=>Fz.ite (λ_=>Fz.bind Fz.takeF λy s2 h2=>Fz.bind ((h s2 (by omega) .ng).less (z0z _)) λk s3 h3=>Fz.pure _) (λ_=>Zf h (by omega))
theorem Xu(h:Al L)(hs:s.r.length<=L):Fz (λm=>P m .cj) s 1:=by
 refine Fz.step ?_
 simp only[P]
 exact Fz.bind (fH h hs) λl s1 h1=>dF h (by omega) l
theorem VJ(h:Al L)(hs:s.r.length<=L):Fz (λm=>P m .ex) s 1:=by
 refine Fz.step ?_
 simp only[P]
 exact Fz.bind (Xu h hs) λl s1 h1=>Xd h (by omega) l
theorem ZM:Fz (λm=>P m .pm) s 1:=by
 refine Fz.step ?_
 simp only[P]
 exact Fz.bind Fz.nameF λy s1 h1=>Fz.pure _
theorem lZ(h:Al L)(hs:s.r.length<=L)(p:Bool)(l:Fo):Fz (λm=>P m (.lsT p l)) s 1:=by
 refine Fz.step ?_
 simp only[P]
 refine Fz.bind Fz.lookF λy s1 h1=>Fz.ite (λ_=>Fz.bind (Fz.wantF _) λ_ s2 h2=>Fz.pure _) (λ_=>Fz.bind (d:=0) (Fz.ite (λ_=>Fz.pure _) (λ_=>(Fz.wantF _).less (z0z _))) λ_ s2 h2=>?_)
 refine Fz.bind (d:=1) ?_ λx s3 h3=>(h s3 (by omega) (.lsT p _)).less (z0z _)
 cases p
 ·exact VJ h (by omega)
 ·exact ZM
theorem AAJ(h:Al L)(hs:s.r.length<=L)(p:Bool):Fz (λm=>P m (.ls p)) s 1:=by
 refine Fz.step ?_
 simp only[P]
 exact Fz.bind (Fz.wantF _) λ_ s1 h1=>(h s1 (by omega) (.lsT p _)).less (z0z _)
theorem aA:Fz (λm=>P m .gl) s 1:=by
 refine Fz.step ?_
 simp only[P]
 exact Fz.bind (Fz.wantF _) λ_ s1 h1=>Fz.bind (Fz.nameF.less (z0z _)) λy s2 h2=>Fz.bind ((Fz.wantF _).less (z0z _)) λ_ s3 h3=>Fz.pure _
theorem XD(h:Al L)(hs:s.r.length<=L):Fz (λm=>P m .fu) s 1:=by
 refine Fz.step ?_
 simp only[P]
 exact Fz.bind (Fz.wantF _) λ_ s1 h1=>Fz.bind (Fz.nameF.less (z0z _)) λy s2 h2=>Fz.bind ((h s2 (by omega) (.ls true)).less (z0z _)) λl s3 h3=>Fz.bind ((h s3 (by omega) .bl).less (z0z _)) λb s4 h4=>Fz.pure _
theorem ACO(h:Al L)(hs:s.r.length<=L)(l:Fo):Fz (λm=>P m (.pg l)) s 0:=by
 refine Fz.step ?_
 simp only[P]
 refine Fz.bind Fz.lookF λy s1 h1=>Fz.ite (λ_=>Fz.pure _) (λ_=>Fz.bind (d:=1) ?_ λx s2 h2=>h s2 (by omega) (.pg _))
 split
 ·exact aA
 ·exact XD h (by omega)
theorem sG(h:Al L)(hs:s.r.length<=L):Fz (λm=>P m .bl) s 1:=by
 refine Fz.step ?_
 simp only[P]
 exact Fz.bind (Fz.wantF _) λy s1 h1=>Fz.bind ((h s1 (by omega) (.blT _)).less (z0z _)) λl s2 h2=>Fz.pure _
theorem aV(h:Al L)(hs:s.r.length<=L):Fz (λm=>P m .lt) s 1:=by
 refine Fz.step ?_
 simp only[P]
 exact Fz.bind (Fz.wantF _) λ_ s1 h1=>Fz.bind (Fz.nameF.less (z0z _)) λy s2 h2=>Fz.bind ((Fz.wantF _).less (z0z _)) λ_ s3 h3=>Fz.bind ((h s3 (by omega) .ex).less (z0z _)) λv s4 h4=>Fz.bind ((Fz.wantF _).less (z0z _)) λ_ s5 h5=>Fz.pure _
theorem Zk(h:Al L)(hs:s.r.length<=L):Fz (λm=>P m .iF) s 1:=by
 refine Fz.step ?_
 simp only[P]
 refine Fz.bind (Fz.wantF _) λy s1 h1=>Fz.bind ((h s1 (by omega) .ex).less (z0z _)) λc s2 h2=>Fz.bind ((h s2 (by omega) .bl).less (z0z _)) λb s3 h3=>Fz.bind Fz.lookF λz s4 h4=>Fz.ite (λ_=>Fz.bind (Fz.takeF.less (z0z _)) λ_ s5 h5=>Fz.bind Fz.lookF λz s6 h6=>Fz.bind (d:=0) ?_ λd s7 h7=>Fz.pure _) (λ_=>Fz.pure _)
 exact(h s6 (by omega) _).less (z0z _)
theorem ZU(h:Al L)(hs:s.r.length<=L):Fz (λm=>P m .wh) s 1:=by
 refine Fz.step ?_
 simp only[P]
 exact Fz.bind (Fz.wantF _) λy s1 h1=>Fz.bind ((h s1 (by omega) .ex).less (z0z _)) λc s2 h2=>Fz.bind ((h s2 (by omega) .bl).less (z0z _)) λb s3 h3=>Fz.pure _
theorem Yv(h:Al L)(hs:s.r.length<=L):Fz (λm=>P m .fr) s 1:=by
 refine Fz.step ?_
 simp only[P]
 exact Fz.bind (Fz.wantF _) λy s1 h1=>Fz.bind (Fz.nameF.less (z0z _)) λv s2 h2=>Fz.bind ((Fz.wantF _).less (z0z _)) λ_ s3 h3=>Fz.bind ((h s3 (by omega) .ex).less (z0z _)) λf s4 h4=>Fz.bind ((Fz.wantF _).less (z0z _)) λ_ s5 h5=>Fz.bind ((h s5 (by omega) .ex).less (z0z _)) λt s6 h6=>Fz.bind ((h s6 (by omega) .bl).less (z0z _)) λb s7 h7=>Fz.pure _
theorem Xa(h:Al L)(hs:s.r.length<=L):Fz (λm=>P m .lb) s 1:=by
 refine Fz.step ?_
 simp only[P]
 exact Fz.bind Fz.nameF λy s1 h1=>Fz.bind ((Fz.wantF _).less (z0z _)) λ_ s2 h2=>Fz.bind Fz.lookF λz s3 h3=>Fz.ite (λ_=>Fz.bind ((h s3 (by omega) .fr).less (z0z _)) λf s4 h4=>Fz.pure _) (λ_=>Fz.bind ((h s3 (by omega) .wh).less (z0z _)) λf s4 h4=>Fz.pure _)
theorem TH(k:Int):Fz (λm=>P m (.jm k)) s 1:=by
 refine Fz.step ?_
 simp only[P]
 exact Fz.bind Fz.takeF λy s1 h1=>Fz.bind Fz.lookF λz s2 h2=>Fz.ite (λ_=>Fz.bind ((Fz.wantF _).less (z0z _)) λ_ s3 h3=>Fz.pure _) (λ_=>Fz.bind (Fz.nameF.less (z0z _)) λv s3 h3=>Fz.bind ((Fz.wantF _).less (z0z _)) λ_ s4 h4=>Fz.pure _)
theorem Zc(h:Al L)(hs:s.r.length<=L):Fz (λm=>P m .rt) s 1:=by
 refine Fz.step ?_
 simp only[P]
 exact Fz.bind (Fz.wantF _) λy s1 h1=>Fz.bind Fz.lookF λz s2 h2=>Fz.ite (λ_=>Fz.bind ((Fz.wantF _).less (z0z _)) λ_ s3 h3=>Fz.pure _) (λ_=>Fz.bind ((h s2 (by omega) .ex).less (z0z _)) λv s3 h3=>Fz.bind ((Fz.wantF _).less (z0z _)) λ_ s4 h4=>Fz.pure _)
theorem Za(h:Al L)(hs:s.r.length<=L):Fz (λm=>P m .ou) s 1:=by
 refine Fz.step ?_
 simp only[P]
 exact Fz.bind (Fz.wantF _) λy s1 h1=>Fz.bind ((h s1 (by omega) .ex).less (z0z _)) λv s3 h3=>Fz.bind ((Fz.wantF _).less (z0z _)) λ_ s4 h4=>Fz.pure _
theorem qW(h:Al L)(hs:s.r.length<=L)(m:Nd)(ks:Fo):Fz (λk=>P k (.asg m ks)) s 1:=by
 refine Fz.step ?_
 simp only[P]
 exact Fz.bind (Fz.wantF _) λy s1 h1=>Fz.bind ((h s1 (by omega) .ex).less (z0z _)) λv s3 h3=>Fz.bind ((Fz.wantF _).less (z0z _)) λ_ s4 h4=>Fz.pure _
theorem Zn(h:Al L)(hs:s.r.length<=L):Fz (λm=>P m .pl) s 1:=by
 refine Fz.step ?_
 simp only[P]
 refine Fz.bind (VJ h hs) λf s1 h1=>Fz.bind Fz.lookF λz s2 h2=>?_
 cases f with
 | nil=>exact Fz.pure _
 | cons m ks r=>exact Fz.ite (λ_=>(h s2 (by omega) (.asg _ _)).less (z0z _)) (λ_=>Fz.ite (λ_=>(h s2 (by omega) (.asg _ _)).less (z0z _)) (λ_=>Fz.bind ((Fz.wantF _).less (z0z _)) λ_ s3 h3=>Fz.pure _))
theorem aK(h:Al L)(hs:s.r.length<=L):Fz (λm=>P m .st) s 1:=by
 refine Fz.step ?_
 simp only[P]
 exact Fz.bind Fz.lookF λy s1 h1=>Fz.ite (λ_=>aV h (by omega)) λ_=>Fz.ite (λ_=>Zk h (by omega)) λ_=>Fz.ite (λ_=>ZU h (by omega)) λ_=>Fz.ite (λ_=>Yv h (by omega)) λ_=>Fz.ite (λ_=>TH _) λ_=>Fz.ite (λ_=>TH _) λ_=>Fz.ite (λ_=>Zc h (by omega)) λ_=>Fz.ite (λ_=>Za h (by omega)) λ_=>Fz.bind Fz.stF λq s2 h2=>Fz.ite (λ_=>Xa h (by omega)) λ_=>Zn h (by omega)
theorem qR(h:Al L)(hs:s.r.length<=L)(l:Fo):Fz (λm=>P m (.blT l)) s 1:=by
 refine Fz.step ?_
 simp only[P]
 exact Fz.bind Fz.lookF λy s1 h1=>Fz.ite (λ_=>Fz.bind (Fz.wantF _) λ_ s2 h2=>Fz.pure _) (λ_=>Fz.bind (aK h (by omega)) λx s2 h2=>(h s2 (by omega) (.blT _)).less (z0z _))
end
theorem Rm:∀L,Al L
 | 0=>λs hs=>by omega
 | L+1=>λs hs nt=>by
  have h:=Rm L
  have hs:s.r.length<=L:=by omega
  cases nt with
  | ex=>exact VJ h hs
  | exT l=>exact Xd h hs l
  | cj=>exact Xu h hs
  | cjT l=>exact dF h hs l
  | ng=>exact fH h hs
  | cm=>exact Zf h hs
  | bn k=>exact Pf h 7 k s hs (by omega)
  | bnT k l=>exact WR h hs k l
  | un=>exact UQ h hs
  | po=>exact YZ h hs
  | poT l=>exact dW h hs l
  | pr=>exact ZP h hs
  | nm=>exact gH h hs
  | wd=>exact cO
  | ls p=>exact AAJ h hs p
  | lsT p l=>exact lZ h hs p l
  | pm=>exact ZM
  | gl=>exact aA
  | fu=>exact XD h hs
  | pg l=>exact ACO h hs l
  | bl=>exact sG h hs
  | blT l=>exact qR h hs l
  | st=>exact aK h hs
  | lt=>exact aV h hs
  | iF=>exact Zk h hs
  | wh=>exact ZU h hs
  | fr=>exact Yv h hs
  | lb=>exact Xa h hs
  | jm k=>exact TH k
  | rt=>exact Zc h hs
  | ou=>exact Za h hs
  | pl=>exact Zn h hs
  | asg m ks=>exact qW h hs m ks
theorem vL(nt:Nt)(s:Cs):∃n r,P n nt s=some r:=by
 obtain⟨n,r,h,_⟩:=Rm (s.r.length+1) s (by omega) nt
 exact⟨n,r,h n (Nat.le_refl _)⟩
end Go.Proofs.YtjplieobnknnpaaGreatDoor.W.Tr
