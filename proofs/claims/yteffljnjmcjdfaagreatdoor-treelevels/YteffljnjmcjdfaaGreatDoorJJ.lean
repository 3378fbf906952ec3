import Derived.Test.YteffljnjmcjdfaaGreatDoorJC
open Nat renaming zero_le → z0z
set_option maxRecDepth 1000000
set_option maxHeartbeats 8000000
namespace Go.Proofs.YteffljnjmcjdfaaGreatDoor.W.Tr
structure Nd where
 kind:Int
 a:Int
 text:ByteArray
 int:Int
 bits:Int
inductive Fo where
 | nil
 | cons (n:Nd) (ks r:Fo)
def Fo.app:Fo->Fo->Fo
 | .nil,g=>g
 | .cons n ks r,g=>.cons n ks (r.app g)
def Fo.len:Fo->Nat
 | .nil=>0
 | .cons _ _ r=>r.len+1
def Fo.one(n:Nd)(ks:Fo):Fo:=.cons n ks .nil
structure Cs where
 r:List Yd
 o:Int
abbrev Flt:=Int × Int
abbrev Rs(α:Type):=Except Flt (α × Cs)
abbrev k_or:ByteArray:=⟨#[111,114]⟩
abbrev k_and:ByteArray:=⟨#[97,110,100]⟩
abbrev k_not:ByteArray:=⟨#[110,111,116]⟩
abbrev k_lpar:ByteArray:=⟨#[40]⟩
abbrev k_rpar:ByteArray:=⟨#[41]⟩
abbrev k_lbr:ByteArray:=⟨#[91]⟩
abbrev k_rbr:ByteArray:=⟨#[93]⟩
abbrev k_lcu:ByteArray:=⟨#[123]⟩
abbrev k_rcu:ByteArray:=⟨#[125]⟩
abbrev k_mns:ByteArray:=⟨#[45]⟩
abbrev k_tld:ByteArray:=⟨#[126]⟩
abbrev k_true:ByteArray:=⟨#[116,114,117,101]⟩
abbrev k_false:ByteArray:=⟨#[102,97,108,115,101]⟩
abbrev k_nil:ByteArray:=⟨#[110,105,108]⟩
abbrev k_let:ByteArray:=⟨#[108,101,116]⟩
abbrev k_semi:ByteArray:=⟨#[59]⟩
abbrev k_fn:ByteArray:=⟨#[102,110]⟩
abbrev k_com:ByteArray:=⟨#[44]⟩
abbrev k_if:ByteArray:=⟨#[105,102]⟩
abbrev k_while:ByteArray:=⟨#[119,104,105,108,101]⟩
abbrev k_for:ByteArray:=⟨#[102,111,114]⟩
abbrev k_break:ByteArray:=⟨#[98,114,101,97,107]⟩
abbrev k_continue:ByteArray:=⟨#[99,111,110,116,105,110,117,101]⟩
abbrev k_return:ByteArray:=⟨#[114,101,116,117,114,110]⟩
abbrev k_out:ByteArray:=⟨#[111,117,116]⟩
abbrev k_else:ByteArray:=⟨#[101,108,115,101]⟩
abbrev k_in:ByteArray:=⟨#[105,110]⟩
abbrev k_dots:ByteArray:=⟨#[46,46]⟩
abbrev k_col:ByteArray:=⟨#[58]⟩
abbrev k_eqs:ByteArray:=⟨#[61]⟩
def fixedT(t:Tk):ByteArray:=if t.kind=2\/t.kind=3 then t.text else ⟨#[]⟩
def opensT(t:Tk):Bool:=fixedT t=k_lpar||fixedT t=k_lbr||fixedT t=k_lcu
def closesT(t:Tk):Bool:=fixedT t=k_rpar||fixedT t=k_rbr||fixedT t=k_rcu
def look(s:Cs):Except Flt Yd:=match s.r with
 | []=>.error (0,0)
 | y::_=>if y.c=0 then (if opensT y.t=true/\s.o=64 then .error (71,y.a) else .ok y) else .error (y.c,y.f)
def behind(y:Yd)(s:Cs):Cs:=⟨s.r.tail,s.o+(if opensT y.t=true then 1 else 0)-(if closesT y.t=true then 1 else 0)⟩
def Pm(α:Type):=Cs->Option (Rs α)
def Pm.pure{α:Type}(a:α):Pm α:=λs=>some (.ok (a,s))
def Pm.bind{α β:Type}(x:Pm α)(f:α->Pm β):Pm β:=λs=>match x s with
 | none=>none
 | some (.error e)=>some (.error e)
 | some (.ok (a,s'))=>f a s'
def lookM:Pm Yd:=λs=>match look s with
 | .error e=>some (.error e)
 | .ok y=>some (.ok (y,s))
def takeM:Pm Yd:=λs=>match look s with
 | .error e=>some (.error e)
 | .ok y=>some (.ok (y,behind y s))
def failM{α:Type}(e:Flt):Pm α:=λ_=>some (.error e)
def wantM(t:ByteArray):Pm Yd:=lookM.bind λy=>if fixedT y.t=t then takeM else failM (70,y.a)
def nameM:Pm Yd:=lookM.bind λy=>if y.t.kind=1 then takeM else failM (70,y.a)
def atN(k:Int)(y:Yd):Nd:=⟨k,y.a,⟨#[]⟩,0,0⟩
def ofN(k:Int)(y:Yd):Nd:=⟨k,y.a,y.t.text,y.t.int,y.t.bits⟩
def tight(t:ByteArray):Nat:=if t=⟨#[124]⟩ then 1 else if t=⟨#[94]⟩ then 2 else if t=⟨#[38]⟩ then 3 else if t=⟨#[60,60]⟩\/t=⟨#[62,62]⟩ then 4 else if t=⟨#[43]⟩\/t=⟨#[45]⟩ then 5 else if t=⟨#[42]⟩\/t=⟨#[47]⟩\/t=⟨#[47,47]⟩\/t=⟨#[37]⟩ then 6 else 0
def comp(t:ByteArray):Bool:=t=⟨#[61,61]⟩||t=⟨#[33,61]⟩||t=⟨#[60]⟩||t=⟨#[60,61]⟩||t=⟨#[62]⟩||t=⟨#[62,61]⟩
def colon(s:Cs):Bool:=match s.r with
 | _::z::_=>z.c=0&&fixedT z.t=k_col
 | _=>false
def stM:Pm Cs:=λs=>some (.ok (s,s))
inductive Nt where
 | ex|exT (l:Fo)|cj|cjT (l:Fo)|ng|cm|bn (k:Nat)|bnT (k:Nat) (l:Fo)|un|po|poT (l:Fo)|pr|nm|wd
 | ls (p:Bool)|lsT (p:Bool) (l:Fo)|pm|gl|fu|pg (l:Fo)|bl|blT (l:Fo)|st|lt|iF|wh|fr|lb|jm (k:Int)|rt|ou|pl|asg (n:Nd) (ks:Fo)
open Fo in
def P:Nat->Nt->Pm Fo
 | 0,_=>λ_=>none
 | n+1,.ex=>(P n .cj).bind λl=>P n (.exT l)
 | n+1,.exT l=>lookM.bind λy=>if fixedT y.t=k_or then takeM.bind λy=>(P n .cj).bind λr=>P n (.exT (one (atN 18 y) (l.app r))) else Pm.pure l
 | n+1,.cj=>(P n .ng).bind λl=>P n (.cjT l)
 | n+1,.cjT l=>lookM.bind λy=>if fixedT y.t=k_and then takeM.bind λy=>(P n .ng).bind λr=>P n (.cjT (one (atN 19 y) (l.app r))) else Pm.pure l
 | n+1,.ng=>lookM.bind λy=>if fixedT y.t=k_not then takeM.bind λy=>(P n .ng).bind λk=>Pm.pure (one (atN 20 y) k) else P n .cm
 | n+1,.cm=>(P n (.bn 1)).bind λl=>lookM.bind λy=>if comp (fixedT y.t)=true then takeM.bind λy=>(P n (.bn 1)).bind λr=>Pm.pure (one (ofN 21 y) (l.app r)) else Pm.pure l
 | n+1,.bn k=>if 6<k then P n .un else (P n (.bn (k+1))).bind λl=>P n (.bnT k l)
 | n+1,.bnT k l=>lookM.bind λy=>if tight (fixedT y.t)=k then takeM.bind λy=>(P n (.bn (k+1))).bind λr=>P n (.bnT k (one (ofN 21 y) (l.app r))) else Pm.pure l
 | n+1,.un=>lookM.bind λy=>if fixedT y.t=k_mns\/fixedT y.t=k_tld then takeM.bind λy=>(P n .un).bind λk=>Pm.pure (one (ofN 22 y) k) else P n .po
 | n+1,.po=>(P n .pr).bind λl=>P n (.poT l)
 | n+1,.poT l=>lookM.bind λy=>if fixedT y.t=k_lbr then takeM.bind λy=>(P n .ex).bind λi=>(wantM k_rbr).bind λ_=>P n (.poT (one (atN 24 y) (l.app i))) else Pm.pure l
 | n+1,.pr=>lookM.bind λy=>if y.t.kind=4 then takeM.bind λy=>Pm.pure (one (ofN 26 y) nil) else if y.t.kind=5 then takeM.bind λy=>Pm.pure (one (ofN 27 y) nil) else if y.t.kind=6 then takeM.bind λy=>Pm.pure (one (ofN 28 y) nil) else if y.t.kind=1 then P n .nm else if y.t.kind=2 then P n .wd else (wantM k_lpar).bind λ_=>(P n .ex).bind λi=>(wantM k_rpar).bind λ_=>Pm.pure i
 | n+1,.nm=>nameM.bind λy=>lookM.bind λz=>if fixedT z.t=k_lpar then (P n (.ls false)).bind λl=>Pm.pure (one (ofN 23 y) l) else Pm.pure (one (ofN 25 y) nil)
 | _+1,.wd=>lookM.bind λy=>if fixedT y.t=k_true then takeM.bind λy=>Pm.pure (one (atN 29 y) nil) else if fixedT y.t=k_false then takeM.bind λy=>Pm.pure (one (atN 30 y) nil) else (wantM k_nil).bind λy=>Pm.pure (one (atN 31 y) nil)
 | n+1,.ls p=>(wantM k_lpar).bind λ_=>P n (.lsT p nil)
 | n+1,.lsT p l=>lookM.bind λy=>if fixedT y.t=k_rpar then (wantM k_rpar).bind λ_=>Pm.pure l else (if l.len=0 then Pm.pure y else wantM k_com).bind λ_=>(P n (if p=true then .pm else .ex)).bind λx=>P n (.lsT p (l.app x))
 | _+1,.pm=>nameM.bind λy=>Pm.pure (one (ofN 4 y) nil)
 | _+1,.gl=>(wantM k_let).bind λ_=>nameM.bind λy=>(wantM k_semi).bind λ_=>Pm.pure (one (ofN 2 y) nil)
 | n+1,.fu=>(wantM k_fn).bind λ_=>nameM.bind λy=>(P n (.ls true)).bind λl=>(P n .bl).bind λb=>Pm.pure (one (ofN 3 y) (l.app b))
 | n+1,.pg l=>lookM.bind λy=>if y.t.kind=7 then Pm.pure (one ⟨1,0,⟨#[]⟩,0,0⟩ l) else (P n (if fixedT y.t=k_let then .gl else .fu)).bind λx=>P n (.pg (l.app x))
 | n+1,.bl=>(wantM k_lcu).bind λy=>(P n (.blT nil)).bind λl=>Pm.pure (one (atN 5 y) l)
 | n+1,.blT l=>lookM.bind λy=>if fixedT y.t=k_rcu then (wantM k_rcu).bind λ_=>Pm.pure l else (P n .st).bind λx=>P n (.blT (l.app x))
 | n+1,.st=>lookM.bind λy=>if fixedT y.t=k_let then P n .lt else if fixedT y.t=k_if then P n .iF else if fixedT y.t=k_while then P n .wh else if fixedT y.t=k_for then P n .fr else if fixedT y.t=k_break then P n (.jm 13) else if fixedT y.t=k_continue then P n (.jm 14) else if fixedT y.t=k_return then P n .rt else if fixedT y.t=k_out then P n .ou else stM.bind λs=>if y.t.kind=1/\colon s=true then P n .lb else P n .pl
 | n+1,.lt=>(wantM k_let).bind λ_=>nameM.bind λy=>(wantM k_eqs).bind λ_=>(P n .ex).bind λv=>(wantM k_semi).bind λ_=>Pm.pure (one (ofN 6 y) v)
 | n+1,.iF=>(wantM k_if).bind λy=>(P n .ex).bind λc=>(P n .bl).bind λb=>lookM.bind λz=>if fixedT z.t=k_else then takeM.bind λ_=>lookM.bind λz=>(P n (if fixedT z.t=k_if then .iF else .bl)).bind λd=>Pm.pure (one (atN 9 y) ((c.app b).app d)) else Pm.pure (one (atN 9 y) (c.app b))
 | n+1,.wh=>(wantM k_while).bind λy=>(P n .ex).bind λc=>(P n .bl).bind λb=>Pm.pure (one (atN 10 y) (c.app b))
 | n+1,.fr=>(wantM k_for).bind λy=>nameM.bind λv=>(wantM k_in).bind λ_=>(P n .ex).bind λf=>(wantM k_dots).bind λ_=>(P n .ex).bind λt=>(P n .bl).bind λb=>Pm.pure (one ⟨11,y.a,v.t.text,0,0⟩ ((f.app t).app b))
 | n+1,.lb=>nameM.bind λy=>(wantM k_col).bind λ_=>lookM.bind λz=>if fixedT z.t=k_for then (P n .fr).bind λf=>Pm.pure (match f with | .cons m ks r=>.cons m ((one (ofN 12 y) nil).app ks) r | .nil=>.nil) else (P n .wh).bind λf=>Pm.pure (match f with | .cons m ks r=>.cons ⟨m.kind,m.a,y.t.text,m.int,m.bits⟩ ks r | .nil=>.nil)
 | _+1,.jm k=>takeM.bind λy=>lookM.bind λz=>if fixedT z.t=k_semi then (wantM k_semi).bind λ_=>Pm.pure (one (atN k y) nil) else nameM.bind λv=>(wantM k_semi).bind λ_=>Pm.pure (one ⟨k,y.a,v.t.text,0,0⟩ nil)
 | n+1,.rt=>(wantM k_return).bind λy=>lookM.bind λz=>if fixedT z.t=k_semi then (wantM k_semi).bind λ_=>Pm.pure (one (atN 15 y) nil) else (P n .ex).bind λv=>(wantM k_semi).bind λ_=>Pm.pure (one (atN 15 y) v)
 | n+1,.ou=>(wantM k_out).bind λy=>(P n .ex).bind λv=>(wantM k_semi).bind λ_=>Pm.pure (one (atN 16 y) v)
 | n+1,.pl=>(P n .ex).bind λf=>lookM.bind λz=>match f with
  | .nil=>Pm.pure f
  | .cons m ks _=>if fixedT z.t=k_eqs/\m.kind=25 then P n (.asg ⟨7,m.a,m.text,m.int,m.bits⟩ ks) else if fixedT z.t=k_eqs/\m.kind=24 then P n (.asg ⟨8,m.a,m.text,m.int,m.bits⟩ ks) else (wantM k_semi).bind λ_=>Pm.pure (one ⟨17,m.a,⟨#[]⟩,0,0⟩ f)
 | n+1,.asg m ks=>(wantM k_eqs).bind λ_=>(P n .ex).bind λv=>(wantM k_semi).bind λ_=>Pm.pure (one m (ks.app v))
def Pm.Le{α:Type}(x y:Pm α):Prop:=∀s r,x s=some r->y s=some r
theorem Pm.Le.refl{α:Type}(x:Pm α):Pm.Le x x:=λ_ _ h=>h
theorem Pm.Le.trans{α:Type}{x y z:Pm α}(h:Pm.Le x y)(g:Pm.Le y z):Pm.Le x z:=λs r e=>g s r (h s r e)
theorem Pm.Le.bind{α β:Type}{x x':Pm α}{f f':α->Pm β}(h:Pm.Le x x')(g:∀a,Pm.Le (f a) (f' a)):Pm.Le (x.bind f) (x'.bind f'):=by
 intro s r e
 unfold Pm.bind at *
 cases hx:x s with
 | none=>rw[hx] at e;cases e
 | some q=>
  rw[hx] at e
  rw[h s q hx]
  match q,e with
  | .error q,e=>exact e
  | .ok (a,s'),e=>exact g a s' r e
theorem Pm.Le.ite{α:Type}{c:Prop}[Decidable c]{x x' y y':Pm α}(h:Pm.Le x x')(g:Pm.Le y y'):Pm.Le (if c then x else y) (if c then x' else y'):=by
 split
 ·exact h
 ·exact g
theorem P_succ:∀n nt,Pm.Le (P n nt) (P (n+1) nt)
 | 0,nt=>λs r e=>by cases e
 | n+1,nt=>by
  have ih:=P_succ n
  cases nt <;> unfold P
  case pl=>
   refine Pm.Le.bind (ih _) λf=>Pm.Le.bind (Pm.Le.refl _) λz=>?_
   cases f with
   | nil=>exact Pm.Le.refl _
   | cons m ks r=>exact Pm.Le.ite (ih _) (Pm.Le.ite (ih _) (Pm.Le.refl _))
  all_goals (repeat (first|exact ih _|exact Pm.Le.refl _|refine Pm.Le.bind ?_ (λ_=>?_)|refine Pm.Le.ite ?_ ?_))
theorem P_mono{n m:Nat}(h:n<=m)(nt:Nt):Pm.Le (P n nt) (P m nt):=by
 induction m with
 | zero=>rw[Nat.le_zero.1 h];exact Pm.Le.refl _
 | succ m ih=>
  by_cases e:n=m+1
  ·rw[e];exact Pm.Le.refl _
  ·exact(ih (by omega)).trans (P_succ m nt)
theorem P_det{n m:Nat}{nt:Nt}{s:Cs}{r q:Rs Fo}(h:P n nt s=some r)(g:P m nt s=some q):r=q:=by
 have h1:=P_mono (Nat.le_max_left n m) nt s r h
 have g1:=P_mono (Nat.le_max_right n m) nt s q g
 rw[h1] at g1
 exact Option.some.inj g1
set_option linter.unusedVariables false
def Fz{α:Type}(F:Nat->Pm α)(s:Cs)(d:Nat):Prop:=∃n r,(∀m,n<=m->F m s=some r)/\∀a s',r=.ok (a,s')->s'.r.length+d<=s.r.length
section
variable {α β:Type} {F:Nat->Pm α} {s:Cs} {d e:Nat}
theorem Fz.less(h:Fz F s d)(he:e<=d):Fz F s e:=by
 obtain⟨n,r,h1,h2⟩:=h
 exact⟨n,r,h1,λa s' q=>by have:=h2 a s' q;omega⟩
theorem Fz.bind{G:α->Nat->Pm β}(h:Fz F s d)(g:∀a s',s'.r.length+d<=s.r.length->Fz (G a) s' (e-d)):Fz (λm=>(F m).bind λa=>G a m) s e:=by
 obtain⟨n,r,h1,h2⟩:=h
 match r,h1,h2 with
 | .error x,h1,_=>exact⟨n,.error x,λm hm=>by simp only[Pm.bind,h1 m hm],λa s' q=>by cases q⟩
 | .ok (a,s'),h1,h2=>
  have hs:=h2 a s' rfl
  obtain⟨n',r',g1,g2⟩:=g a s' hs
  refine⟨max n n',r',λm hm=>?_,λb s2 q=>?_⟩
  ·simp only[Pm.bind,h1 m (by omega)]
   exact g1 m (by omega)
  ·have:=g2 b s2 q
   omega
theorem Fz.const{x:Pm α}{r:Rs α}(h:x s=some r)(hr:∀a s',r=.ok (a,s')->s'.r.length+d<=s.r.length):Fz (λ_=>x) s d:=⟨0,r,λ_ _=>h,hr⟩
theorem Fz.pure(a:α):Fz (λ_=>Pm.pure a) s 0:=Fz.const (r:=.ok (a,s)) rfl (by rintro a s' h;cases h;omega)
theorem Fz.fail(x:Flt):Fz (λ_=>(failM x:Pm α)) s d:=Fz.const (r:=.error x) rfl (by rintro a s' h;cases h)
theorem Fz.ite{c:Prop}[Decidable c]{G:Nat->Pm α}(h:c->Fz F s d)(g:¬c->Fz G s d):Fz (λm=>if c then F m else G m) s d:=by
 by_cases hc:c
 ·obtain⟨n,r,h1,h2⟩:=h hc
  exact⟨n,r,λm hm=>by simp only[hc,if_true];exact h1 m hm,h2⟩
 ·obtain⟨n,r,h1,h2⟩:=g hc
  exact⟨n,r,λm hm=>by simp only[hc,if_false];exact h1 m hm,h2⟩
end
section
variable {s:Cs}
theorem Fz.lookF:Fz (λ_=>lookM) s 0:=by
 cases h:look s with
 | error x=>exact Fz.const (r:=.error x) (by simp only[lookM,h]) (by rintro a s' q;cases q)
 | ok y=>exact Fz.const (r:=.ok (y,s)) (by simp only[lookM,h]) (by rintro a s' q;cases q;omega)
theorem Fz.takeF:Fz (λ_=>takeM) s 1:=by
 cases h:look s with
 | error x=>exact Fz.const (r:=.error x) (by simp only[takeM,h]) (by rintro a s' q;cases q)
 | ok y=>
  refine Fz.const (r:=.ok (y,behind y s)) (by simp only[takeM,h]) ?_
  rintro a s' q
  cases q
  unfold look at h
  cases hr:s.r with
  | nil=>rw[hr] at h;cases h
  | cons z l=>simp[behind,hr]
theorem Fz.wantF(t:ByteArray):Fz (λ_=>wantM t) s 1:=by
 unfold wantM
 exact Fz.bind (e:=1) Fz.lookF λy s' h=>Fz.ite (λ_=>Fz.takeF) (λ_=>Fz.fail _)
theorem Fz.nameF:Fz (λ_=>nameM) s 1:=by
 unfold nameM
 exact Fz.bind (e:=1) Fz.lookF λy s' h=>Fz.ite (λ_=>Fz.takeF) (λ_=>Fz.fail _)
theorem Fz.stF:Fz (λ_=>stM) s 0:=Fz.const (r:=.ok (s,s)) rfl (by rintro a s' q;cases q;omega)
end
theorem Fz.step{nt:Nt}{s:Cs}{d:Nat}(h:Fz (λm=>P (m+1) nt) s d):Fz (λm=>P m nt) s d:=by
 obtain⟨n,r,h1,h2⟩:=h
 refine⟨n+1,r,λm hm=>?_,h2⟩
 obtain⟨k,rfl⟩:∃k,m=k+1:=⟨m-1,by omega⟩
 exact h1 k (by omega)
def least:Nt->Nat
 | .exT _=>0
 | .cjT _=>0
 | .bnT _ _=>0
 | .poT _=>0
 | .pg _=>0
 | _=>1
def Al(L:Nat):Prop:=∀s:Cs,s.r.length<L->∀nt,Fz (λm=>P m nt) s (least nt)
section
variable {L:Nat} {s:Cs}
theorem al_exT(h:Al L)(hs:s.r.length<=L)(l:Fo):Fz (λm=>P m (.exT l)) s 0:=by
 refine Fz.step ?_
 simp only[P]
 exact Fz.bind Fz.lookF λy s1 h1=>Fz.ite (λ_=>Fz.bind Fz.takeF λy s2 h2=>Fz.bind ((h s2 (by omega) .cj).less (z0z _)) λr s3 h3=>h s3 (by omega) (.exT _)) (λ_=>Fz.pure l)
theorem al_cjT(h:Al L)(hs:s.r.length<=L)(l:Fo):Fz (λm=>P m (.cjT l)) s 0:=by
 refine Fz.step ?_
 simp only[P]
 exact Fz.bind Fz.lookF λy s1 h1=>Fz.ite (λ_=>Fz.bind Fz.takeF λy s2 h2=>Fz.bind ((h s2 (by omega) .ng).less (z0z _)) λr s3 h3=>h s3 (by omega) (.cjT _)) (λ_=>Fz.pure l)
theorem al_bnT(h:Al L)(hs:s.r.length<=L)(k:Nat)(l:Fo):Fz (λm=>P m (.bnT k l)) s 0:=by
 refine Fz.step ?_
 simp only[P]
 exact Fz.bind Fz.lookF λy s1 h1=>Fz.ite (λ_=>Fz.bind Fz.takeF λy s2 h2=>Fz.bind ((h s2 (by omega) (.bn (k+1))).less (z0z _)) λr s3 h3=>h s3 (by omega) (.bnT k _)) (λ_=>Fz.pure l)
theorem al_poT(h:Al L)(hs:s.r.length<=L)(l:Fo):Fz (λm=>P m (.poT l)) s 0:=by
 refine Fz.step ?_
 simp only[P]
 exact Fz.bind Fz.lookF λy s1 h1=>Fz.ite (λ_=>Fz.bind Fz.takeF λy s2 h2=>Fz.bind ((h s2 (by omega) .ex).less (z0z _)) λr s3 h3=>Fz.bind ((Fz.wantF _).less (z0z _)) λ_ s4 h4=>h s4 (by omega) (.poT _)) (λ_=>Fz.pure l)
theorem al_nm(h:Al L)(hs:s.r.length<=L):Fz (λm=>P m .nm) s 1:=by
 refine Fz.step ?_
 simp only[P]
 exact Fz.bind Fz.nameF λy s1 h1=>Fz.bind Fz.lookF λz s2 h2=>Fz.ite (λ_=>Fz.bind ((h s2 (by omega) (.ls false)).less (z0z _)) λl s3 h3=>Fz.pure _) (λ_=>Fz.pure _)
theorem al_wd:Fz (λm=>P m .wd) s 1:=by
 refine Fz.step ?_
 simp only[P]
 exact Fz.bind Fz.lookF λy s1 h1=>Fz.ite (λ_=>Fz.bind Fz.takeF λy s2 h2=>Fz.pure _) (λ_=>Fz.ite (λ_=>Fz.bind Fz.takeF λy s2 h2=>Fz.pure _) (λ_=>Fz.bind (Fz.wantF _) λy s2 h2=>Fz.pure _))
theorem al_pr(h:Al L)(hs:s.r.length<=L):Fz (λm=>P m .pr) s 1:=by
 refine Fz.step ?_
 simp only[P]
 exact Fz.bind Fz.lookF λy s1 h1=>Fz.ite (λ_=>Fz.bind Fz.takeF λy s2 h2=>Fz.pure _) (λ_=>Fz.ite (λ_=>Fz.bind Fz.takeF λy s2 h2=>Fz.pure _) (λ_=>Fz.ite (λ_=>Fz.bind Fz.takeF λy s2 h2=>Fz.pure _) (λ_=>Fz.ite (λ_=>al_nm h (by omega)) (λ_=>Fz.ite (λ_=>al_wd) (λ_=>Fz.bind (Fz.wantF _) λ_ s2 h2=>Fz.bind ((h s2 (by omega) .ex).less (z0z _)) λi s3 h3=>Fz.bind ((Fz.wantF _).less (z0z _)) λ_ s4 h4=>Fz.pure _)))))
theorem al_po(h:Al L)(hs:s.r.length<=L):Fz (λm=>P m .po) s 1:=by
 refine Fz.step ?_
 simp only[P]
 exact Fz.bind (al_pr h hs) λl s1 h1=>al_poT h (by omega) l
theorem al_un(h:Al L)(hs:s.r.length<=L):Fz (λm=>P m .un) s 1:=by
 refine Fz.step ?_
 simp only[P]
 exact Fz.bind Fz.lookF λy s1 h1=>Fz.ite (λ_=>Fz.bind Fz.takeF λy s2 h2=>Fz.bind ((h s2 (by omega) .un).less (z0z _)) λk s3 h3=>Fz.pure _) (λ_=>al_po h (by omega))
theorem al_bn(h:Al L):∀ (j k:Nat) (s:Cs),s.r.length<=L->7<=k+j->Fz (λm=>P m (.bn k)) s 1
 | 0,k,s,hs,hk=>by
  refine Fz.step ?_
  simp only[P]
  exact Fz.ite (λ_=>al_un h hs) (λc=>by omega)
 | j+1,k,s,hs,hk=>by
  refine Fz.step ?_
  simp only[P]
  exact Fz.ite (λ_=>al_un h hs) (λ_=>Fz.bind (al_bn h j (k+1) s hs (by omega)) λl s1 h1=>al_bnT h (by omega) k l)
theorem al_cm(h:Al L)(hs:s.r.length<=L):Fz (λm=>P m .cm) s 1:=by
 refine Fz.step ?_
 simp only[P]
 exact Fz.bind (al_bn h 6 1 s hs (by omega)) λl s1 h1=>Fz.bind Fz.lookF λy s2 h2=>Fz.ite (λ_=>Fz.bind (Fz.takeF.less (z0z _)) λy s3 h3=>Fz.bind ((al_bn h 6 1 s3 (by omega) (by omega)).less (z0z _)) λr s4 h4=>Fz.pure _) (λ_=>Fz.pure l)
theorem al_ng(h:Al L)(hs:s.r.length<=L):Fz (λm=>P m .ng) s 1:=by
 refine Fz.step ?_
 simp only[P]
 exact Fz.bind Fz.lookF λy s1 h1=>Fz.ite (λ_=>Fz.bind Fz.takeF λy s2 h2=>Fz.bind ((h s2 (by omega) .ng).less (z0z _)) λk s3 h3=>Fz.pure _) (λ_=>al_cm h (by omega))
theorem al_cj(h:Al L)(hs:s.r.length<=L):Fz (λm=>P m .cj) s 1:=by
 refine Fz.step ?_
 simp only[P]
 exact Fz.bind (al_ng h hs) λl s1 h1=>al_cjT h (by omega) l
theorem al_ex(h:Al L)(hs:s.r.length<=L):Fz (λm=>P m .ex) s 1:=by
 refine Fz.step ?_
 simp only[P]
 exact Fz.bind (al_cj h hs) λl s1 h1=>al_exT h (by omega) l
theorem al_pm:Fz (λm=>P m .pm) s 1:=by
 refine Fz.step ?_
 simp only[P]
 exact Fz.bind Fz.nameF λy s1 h1=>Fz.pure _
theorem al_lsT(h:Al L)(hs:s.r.length<=L)(p:Bool)(l:Fo):Fz (λm=>P m (.lsT p l)) s 1:=by
 refine Fz.step ?_
 simp only[P]
 refine Fz.bind Fz.lookF λy s1 h1=>Fz.ite (λ_=>Fz.bind (Fz.wantF _) λ_ s2 h2=>Fz.pure _) (λ_=>Fz.bind (d:=0) (Fz.ite (λ_=>Fz.pure _) (λ_=>(Fz.wantF _).less (z0z _))) λ_ s2 h2=>?_)
 refine Fz.bind (d:=1) ?_ λx s3 h3=>(h s3 (by omega) (.lsT p _)).less (z0z _)
 cases p
 ·exact al_ex h (by omega)
 ·exact al_pm
theorem al_ls(h:Al L)(hs:s.r.length<=L)(p:Bool):Fz (λm=>P m (.ls p)) s 1:=by
 refine Fz.step ?_
 simp only[P]
 exact Fz.bind (Fz.wantF _) λ_ s1 h1=>(h s1 (by omega) (.lsT p _)).less (z0z _)
theorem al_gl:Fz (λm=>P m .gl) s 1:=by
 refine Fz.step ?_
 simp only[P]
 exact Fz.bind (Fz.wantF _) λ_ s1 h1=>Fz.bind (Fz.nameF.less (z0z _)) λy s2 h2=>Fz.bind ((Fz.wantF _).less (z0z _)) λ_ s3 h3=>Fz.pure _
theorem al_fu(h:Al L)(hs:s.r.length<=L):Fz (λm=>P m .fu) s 1:=by
 refine Fz.step ?_
 simp only[P]
 exact Fz.bind (Fz.wantF _) λ_ s1 h1=>Fz.bind (Fz.nameF.less (z0z _)) λy s2 h2=>Fz.bind ((h s2 (by omega) (.ls true)).less (z0z _)) λl s3 h3=>Fz.bind ((h s3 (by omega) .bl).less (z0z _)) λb s4 h4=>Fz.pure _
theorem al_pg(h:Al L)(hs:s.r.length<=L)(l:Fo):Fz (λm=>P m (.pg l)) s 0:=by
 refine Fz.step ?_
 simp only[P]
 refine Fz.bind Fz.lookF λy s1 h1=>Fz.ite (λ_=>Fz.pure _) (λ_=>Fz.bind (d:=1) ?_ λx s2 h2=>h s2 (by omega) (.pg _))
 split
 ·exact al_gl
 ·exact al_fu h (by omega)
theorem al_bl(h:Al L)(hs:s.r.length<=L):Fz (λm=>P m .bl) s 1:=by
 refine Fz.step ?_
 simp only[P]
 exact Fz.bind (Fz.wantF _) λy s1 h1=>Fz.bind ((h s1 (by omega) (.blT _)).less (z0z _)) λl s2 h2=>Fz.pure _
theorem al_lt(h:Al L)(hs:s.r.length<=L):Fz (λm=>P m .lt) s 1:=by
 refine Fz.step ?_
 simp only[P]
 exact Fz.bind (Fz.wantF _) λ_ s1 h1=>Fz.bind (Fz.nameF.less (z0z _)) λy s2 h2=>Fz.bind ((Fz.wantF _).less (z0z _)) λ_ s3 h3=>Fz.bind ((h s3 (by omega) .ex).less (z0z _)) λv s4 h4=>Fz.bind ((Fz.wantF _).less (z0z _)) λ_ s5 h5=>Fz.pure _
theorem al_iF(h:Al L)(hs:s.r.length<=L):Fz (λm=>P m .iF) s 1:=by
 refine Fz.step ?_
 simp only[P]
 refine Fz.bind (Fz.wantF _) λy s1 h1=>Fz.bind ((h s1 (by omega) .ex).less (z0z _)) λc s2 h2=>Fz.bind ((h s2 (by omega) .bl).less (z0z _)) λb s3 h3=>Fz.bind Fz.lookF λz s4 h4=>Fz.ite (λ_=>Fz.bind (Fz.takeF.less (z0z _)) λ_ s5 h5=>Fz.bind Fz.lookF λz s6 h6=>Fz.bind (d:=0) ?_ λd s7 h7=>Fz.pure _) (λ_=>Fz.pure _)
 exact(h s6 (by omega) _).less (z0z _)
theorem al_wh(h:Al L)(hs:s.r.length<=L):Fz (λm=>P m .wh) s 1:=by
 refine Fz.step ?_
 simp only[P]
 exact Fz.bind (Fz.wantF _) λy s1 h1=>Fz.bind ((h s1 (by omega) .ex).less (z0z _)) λc s2 h2=>Fz.bind ((h s2 (by omega) .bl).less (z0z _)) λb s3 h3=>Fz.pure _
theorem al_fr(h:Al L)(hs:s.r.length<=L):Fz (λm=>P m .fr) s 1:=by
 refine Fz.step ?_
 simp only[P]
 exact Fz.bind (Fz.wantF _) λy s1 h1=>Fz.bind (Fz.nameF.less (z0z _)) λv s2 h2=>Fz.bind ((Fz.wantF _).less (z0z _)) λ_ s3 h3=>Fz.bind ((h s3 (by omega) .ex).less (z0z _)) λf s4 h4=>Fz.bind ((Fz.wantF _).less (z0z _)) λ_ s5 h5=>Fz.bind ((h s5 (by omega) .ex).less (z0z _)) λt s6 h6=>Fz.bind ((h s6 (by omega) .bl).less (z0z _)) λb s7 h7=>Fz.pure _
theorem al_lb(h:Al L)(hs:s.r.length<=L):Fz (λm=>P m .lb) s 1:=by
 refine Fz.step ?_
 simp only[P]
 exact Fz.bind Fz.nameF λy s1 h1=>Fz.bind ((Fz.wantF _).less (z0z _)) λ_ s2 h2=>Fz.bind Fz.lookF λz s3 h3=>Fz.ite (λ_=>Fz.bind ((h s3 (by omega) .fr).less (z0z _)) λf s4 h4=>Fz.pure _) (λ_=>Fz.bind ((h s3 (by omega) .wh).less (z0z _)) λf s4 h4=>Fz.pure _)
theorem al_jm(k:Int):Fz (λm=>P m (.jm k)) s 1:=by
 refine Fz.step ?_
 simp only[P]
 exact Fz.bind Fz.takeF λy s1 h1=>Fz.bind Fz.lookF λz s2 h2=>Fz.ite (λ_=>Fz.bind ((Fz.wantF _).less (z0z _)) λ_ s3 h3=>Fz.pure _) (λ_=>Fz.bind (Fz.nameF.less (z0z _)) λv s3 h3=>Fz.bind ((Fz.wantF _).less (z0z _)) λ_ s4 h4=>Fz.pure _)
theorem al_rt(h:Al L)(hs:s.r.length<=L):Fz (λm=>P m .rt) s 1:=by
 refine Fz.step ?_
 simp only[P]
 exact Fz.bind (Fz.wantF _) λy s1 h1=>Fz.bind Fz.lookF λz s2 h2=>Fz.ite (λ_=>Fz.bind ((Fz.wantF _).less (z0z _)) λ_ s3 h3=>Fz.pure _) (λ_=>Fz.bind ((h s2 (by omega) .ex).less (z0z _)) λv s3 h3=>Fz.bind ((Fz.wantF _).less (z0z _)) λ_ s4 h4=>Fz.pure _)
theorem al_ou(h:Al L)(hs:s.r.length<=L):Fz (λm=>P m .ou) s 1:=by
 refine Fz.step ?_
 simp only[P]
 exact Fz.bind (Fz.wantF _) λy s1 h1=>Fz.bind ((h s1 (by omega) .ex).less (z0z _)) λv s3 h3=>Fz.bind ((Fz.wantF _).less (z0z _)) λ_ s4 h4=>Fz.pure _
theorem al_asg(h:Al L)(hs:s.r.length<=L)(m:Nd)(ks:Fo):Fz (λk=>P k (.asg m ks)) s 1:=by
 refine Fz.step ?_
 simp only[P]
 exact Fz.bind (Fz.wantF _) λy s1 h1=>Fz.bind ((h s1 (by omega) .ex).less (z0z _)) λv s3 h3=>Fz.bind ((Fz.wantF _).less (z0z _)) λ_ s4 h4=>Fz.pure _
theorem al_pl(h:Al L)(hs:s.r.length<=L):Fz (λm=>P m .pl) s 1:=by
 refine Fz.step ?_
 simp only[P]
 refine Fz.bind (al_ex h hs) λf s1 h1=>Fz.bind Fz.lookF λz s2 h2=>?_
 cases f with
 | nil=>exact Fz.pure _
 | cons m ks r=>exact Fz.ite (λ_=>(h s2 (by omega) (.asg _ _)).less (z0z _)) (λ_=>Fz.ite (λ_=>(h s2 (by omega) (.asg _ _)).less (z0z _)) (λ_=>Fz.bind ((Fz.wantF _).less (z0z _)) λ_ s3 h3=>Fz.pure _))
theorem al_st(h:Al L)(hs:s.r.length<=L):Fz (λm=>P m .st) s 1:=by
 refine Fz.step ?_
 simp only[P]
 exact Fz.bind Fz.lookF λy s1 h1=>Fz.ite (λ_=>al_lt h (by omega)) λ_=>Fz.ite (λ_=>al_iF h (by omega)) λ_=>Fz.ite (λ_=>al_wh h (by omega)) λ_=>Fz.ite (λ_=>al_fr h (by omega)) λ_=>Fz.ite (λ_=>al_jm _) λ_=>Fz.ite (λ_=>al_jm _) λ_=>Fz.ite (λ_=>al_rt h (by omega)) λ_=>Fz.ite (λ_=>al_ou h (by omega)) λ_=>Fz.bind Fz.stF λq s2 h2=>Fz.ite (λ_=>al_lb h (by omega)) λ_=>al_pl h (by omega)
theorem al_blT(h:Al L)(hs:s.r.length<=L)(l:Fo):Fz (λm=>P m (.blT l)) s 1:=by
 refine Fz.step ?_
 simp only[P]
 exact Fz.bind Fz.lookF λy s1 h1=>Fz.ite (λ_=>Fz.bind (Fz.wantF _) λ_ s2 h2=>Fz.pure _) (λ_=>Fz.bind (al_st h (by omega)) λx s2 h2=>(h s2 (by omega) (.blT _)).less (z0z _))
end
theorem al_all:∀L,Al L
 | 0=>λs hs=>by omega
 | L+1=>λs hs nt=>by
  have h:=al_all L
  have hs:s.r.length<=L:=by omega
  cases nt with
  | ex=>exact al_ex h hs
  | exT l=>exact al_exT h hs l
  | cj=>exact al_cj h hs
  | cjT l=>exact al_cjT h hs l
  | ng=>exact al_ng h hs
  | cm=>exact al_cm h hs
  | bn k=>exact al_bn h 7 k s hs (by omega)
  | bnT k l=>exact al_bnT h hs k l
  | un=>exact al_un h hs
  | po=>exact al_po h hs
  | poT l=>exact al_poT h hs l
  | pr=>exact al_pr h hs
  | nm=>exact al_nm h hs
  | wd=>exact al_wd
  | ls p=>exact al_ls h hs p
  | lsT p l=>exact al_lsT h hs p l
  | pm=>exact al_pm
  | gl=>exact al_gl
  | fu=>exact al_fu h hs
  | pg l=>exact al_pg h hs l
  | bl=>exact al_bl h hs
  | blT l=>exact al_blT h hs l
  | st=>exact al_st h hs
  | lt=>exact al_lt h hs
  | iF=>exact al_iF h hs
  | wh=>exact al_wh h hs
  | fr=>exact al_fr h hs
  | lb=>exact al_lb h hs
  | jm k=>exact al_jm k
  | rt=>exact al_rt h hs
  | ou=>exact al_ou h hs
  | pl=>exact al_pl h hs
  | asg m ks=>exact al_asg h hs m ks
theorem P_ends(nt:Nt)(s:Cs):∃n r,P n nt s=some r:=by
 obtain⟨n,r,h,_⟩:=al_all (s.r.length+1) s (by omega) nt
 exact⟨n,r,h n (Nat.le_refl _)⟩
end Go.Proofs.YteffljnjmcjdfaaGreatDoor.W.Tr
