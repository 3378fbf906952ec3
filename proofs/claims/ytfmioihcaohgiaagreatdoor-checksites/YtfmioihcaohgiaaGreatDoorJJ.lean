import Derived.Test.YtfmioihcaohgiaaGreatDoorJC
open Nat renaming zero_le → z0z
set_option maxRecDepth 1000000
set_option maxHeartbeats 8000000
namespace Go.Proofs.YtfmioihcaohgiaaGreatDoor.W.Tr
structure Nd where
 kind:Int
 a:Int
 text:ByteArray
 int:Int
 bits:Int
inductive Fo where
 | nil
 | cons (n:Nd) (ks r:Fo)
def Fo.app:Fo→Fo→Fo
 | .nil,g=>g
 | .cons n ks r,g=>.cons n ks (r.app g)
def Fo.len:Fo→Nat
 | .nil=>0
 | .cons _ _ r=>r.len+1
def Fo.one(n:Nd)(ks:Fo):Fo:=.cons n ks .nil
structure Cs where
 r:List Yd
 o:Int
abbrev Flt:=Int × Int
abbrev Rs(α:Type):=Except Flt (α × Cs)
abbrev k_or:ByteArray:=⟨#[111,114]⟩
abbrev k_and:ByteArray:=⟨#[97,110,100]⟩
abbrev k_not:ByteArray:=⟨#[110,111,116]⟩
abbrev k_lpar:ByteArray:=⟨#[40]⟩
abbrev k_rpar:ByteArray:=⟨#[41]⟩
abbrev k_lbr:ByteArray:=⟨#[91]⟩
abbrev k_rbr:ByteArray:=⟨#[93]⟩
abbrev k_lcu:ByteArray:=⟨#[123]⟩
abbrev k_rcu:ByteArray:=⟨#[125]⟩
abbrev k_mns:ByteArray:=⟨#[45]⟩
abbrev k_tld:ByteArray:=⟨#[126]⟩
abbrev k_true:ByteArray:=⟨#[116,114,117,101]⟩
abbrev k_false:ByteArray:=⟨#[102,97,108,115,101]⟩
abbrev k_nil:ByteArray:=⟨#[110,105,108]⟩
abbrev k_let:ByteArray:=⟨#[108,101,116]⟩
abbrev k_semi:ByteArray:=⟨#[59]⟩
abbrev k_fn:ByteArray:=⟨#[102,110]⟩
abbrev k_com:ByteArray:=⟨#[44]⟩
abbrev k_if:ByteArray:=⟨#[105,102]⟩
abbrev k_while:ByteArray:=⟨#[119,104,105,108,101]⟩
abbrev k_for:ByteArray:=⟨#[102,111,114]⟩
abbrev k_break:ByteArray:=⟨#[98,114,101,97,107]⟩
abbrev k_continue:ByteArray:=⟨#[99,111,110,116,105,110,117,101]⟩
abbrev k_return:ByteArray:=⟨#[114,101,116,117,114,110]⟩
abbrev k_out:ByteArray:=⟨#[111,117,116]⟩
abbrev k_else:ByteArray:=⟨#[101,108,115,101]⟩
abbrev k_in:ByteArray:=⟨#[105,110]⟩
abbrev k_dots:ByteArray:=⟨#[46,46]⟩
abbrev k_col:ByteArray:=⟨#[58]⟩
abbrev k_eqs:ByteArray:=⟨#[61]⟩
def fixedT(t:Tk):ByteArray:=if t.kind=2∨t.kind=3 then t.text else ⟨#[]⟩
def opensT(t:Tk):Bool:=fixedT t=k_lpar||fixedT t=k_lbr||fixedT t=k_lcu
def closesT(t:Tk):Bool:=fixedT t=k_rpar||fixedT t=k_rbr||fixedT t=k_rcu
def look(s:Cs):Except Flt Yd:=match s.r with
 | []=>.error (0,0)
 | y::_=>if y.c=0 then (if opensT y.t=true∧s.o=64 then .error (71,y.a) else .ok y) else .error (y.c,y.f)
def behind(y:Yd)(s:Cs):Cs:=⟨s.r.tail,s.o+(if opensT y.t=true then 1 else 0)-(if closesT y.t=true then 1 else 0)⟩
def Pm(α:Type):=Cs→Option (Rs α)
def Pm.pure{α:Type}(a:α):Pm α:=fun s=>some (.ok (a,s))
def Pm.bind{α β:Type}(x:Pm α)(f:α→Pm β):Pm β:=fun s=>match x s with
 | none=>none
 | some (.error e)=>some (.error e)
 | some (.ok (a,s'))=>f a s'
def lookM:Pm Yd:=fun s=>match look s with
 | .error e=>some (.error e)
 | .ok y=>some (.ok (y,s))
def takeM:Pm Yd:=fun s=>match look s with
 | .error e=>some (.error e)
 | .ok y=>some (.ok (y,behind y s))
def failM{α:Type}(e:Flt):Pm α:=fun _=>some (.error e)
def wantM(t:ByteArray):Pm Yd:=lookM.bind fun y=>if fixedT y.t=t then takeM else failM (70,y.a)
def nameM:Pm Yd:=lookM.bind fun y=>if y.t.kind=1 then takeM else failM (70,y.a)
def atN(k:Int)(y:Yd):Nd:=⟨k,y.a,⟨#[]⟩,0,0⟩
def ofN(k:Int)(y:Yd):Nd:=⟨k,y.a,y.t.text,y.t.int,y.t.bits⟩
def tight(t:ByteArray):Nat:=if t=⟨#[124]⟩ then 1 else if t=⟨#[94]⟩ then 2 else if t=⟨#[38]⟩ then 3 else if t=⟨#[60,60]⟩∨t=⟨#[62,62]⟩ then 4 else if t=⟨#[43]⟩∨t=⟨#[45]⟩ then 5 else if t=⟨#[42]⟩∨t=⟨#[47]⟩∨t=⟨#[47,47]⟩∨t=⟨#[37]⟩ then 6 else 0
def comp(t:ByteArray):Bool:=t=⟨#[61,61]⟩||t=⟨#[33,61]⟩||t=⟨#[60]⟩||t=⟨#[60,61]⟩||t=⟨#[62]⟩||t=⟨#[62,61]⟩
def colon(s:Cs):Bool:=match s.r with
 | _::z::_=>z.c=0&&fixedT z.t=k_col
 | _=>false
def stM:Pm Cs:=fun s=>some (.ok (s,s))
inductive Nt where
 | ex|exT (l:Fo)|cj|cjT (l:Fo)|ng|cm|bn (k:Nat)|bnT (k:Nat) (l:Fo)|un|po|poT (l:Fo)|pr|nm|wd
 | ls (p:Bool)|lsT (p:Bool) (l:Fo)|pm|gl|fu|pg (l:Fo)|bl|blT (l:Fo)|st|lt|iF|wh|fr|lb|jm (k:Int)|rt|ou|pl|asg (n:Nd) (ks:Fo)
open Fo in
def P:Nat→Nt→Pm Fo
 | 0,_=>fun _=>none
 | n+1,.ex=>(P n .cj).bind fun l=>P n (.exT l)
 | n+1,.exT l=>lookM.bind fun y=>if fixedT y.t=k_or then takeM.bind fun y=>(P n .cj).bind fun r=>P n (.exT (one (atN 18 y) (l.app r))) else Pm.pure l
 | n+1,.cj=>(P n .ng).bind fun l=>P n (.cjT l)
 | n+1,.cjT l=>lookM.bind fun y=>if fixedT y.t=k_and then takeM.bind fun y=>(P n .ng).bind fun r=>P n (.cjT (one (atN 19 y) (l.app r))) else Pm.pure l
 | n+1,.ng=>lookM.bind fun y=>if fixedT y.t=k_not then takeM.bind fun y=>(P n .ng).bind fun k=>Pm.pure (one (atN 20 y) k) else P n .cm
 | n+1,.cm=>(P n (.bn 1)).bind fun l=>lookM.bind fun y=>if comp (fixedT y.t)=true then takeM.bind fun y=>(P n (.bn 1)).bind fun r=>Pm.pure (one (ofN 21 y) (l.app r)) else Pm.pure l
 | n+1,.bn k=>if 6<k then P n .un else (P n (.bn (k+1))).bind fun l=>P n (.bnT k l)
 | n+1,.bnT k l=>lookM.bind fun y=>if tight (fixedT y.t)=k then takeM.bind fun y=>(P n (.bn (k+1))).bind fun r=>P n (.bnT k (one (ofN 21 y) (l.app r))) else Pm.pure l
 | n+1,.un=>lookM.bind fun y=>if fixedT y.t=k_mns∨fixedT y.t=k_tld then takeM.bind fun y=>(P n .un).bind fun k=>Pm.pure (one (ofN 22 y) k) else P n .po
 | n+1,.po=>(P n .pr).bind fun l=>P n (.poT l)
 | n+1,.poT l=>lookM.bind fun y=>if fixedT y.t=k_lbr then takeM.bind fun y=>(P n .ex).bind fun i=>(wantM k_rbr).bind fun _=>P n (.poT (one (atN 24 y) (l.app i))) else Pm.pure l
 | n+1,.pr=>lookM.bind fun y=>if y.t.kind=4 then takeM.bind fun y=>Pm.pure (one (ofN 26 y) nil) else if y.t.kind=5 then takeM.bind fun y=>Pm.pure (one (ofN 27 y) nil) else if y.t.kind=6 then takeM.bind fun y=>Pm.pure (one (ofN 28 y) nil) else if y.t.kind=1 then P n .nm else if y.t.kind=2 then P n .wd else (wantM k_lpar).bind fun _=>(P n .ex).bind fun i=>(wantM k_rpar).bind fun _=>Pm.pure i
 | n+1,.nm=>nameM.bind fun y=>lookM.bind fun z=>if fixedT z.t=k_lpar then (P n (.ls false)).bind fun l=>Pm.pure (one (ofN 23 y) l) else Pm.pure (one (ofN 25 y) nil)
 | _+1,.wd=>lookM.bind fun y=>if fixedT y.t=k_true then takeM.bind fun y=>Pm.pure (one (atN 29 y) nil) else if fixedT y.t=k_false then takeM.bind fun y=>Pm.pure (one (atN 30 y) nil) else (wantM k_nil).bind fun y=>Pm.pure (one (atN 31 y) nil)
 | n+1,.ls p=>(wantM k_lpar).bind fun _=>P n (.lsT p nil)
 | n+1,.lsT p l=>lookM.bind fun y=>if fixedT y.t=k_rpar then (wantM k_rpar).bind fun _=>Pm.pure l else (if l.len=0 then Pm.pure y else wantM k_com).bind fun _=>(P n (if p=true then .pm else .ex)).bind fun x=>P n (.lsT p (l.app x))
 | _+1,.pm=>nameM.bind fun y=>Pm.pure (one (ofN 4 y) nil)
 | _+1,.gl=>(wantM k_let).bind fun _=>nameM.bind fun y=>(wantM k_semi).bind fun _=>Pm.pure (one (ofN 2 y) nil)
 | n+1,.fu=>(wantM k_fn).bind fun _=>nameM.bind fun y=>(P n (.ls true)).bind fun l=>(P n .bl).bind fun b=>Pm.pure (one (ofN 3 y) (l.app b))
 | n+1,.pg l=>lookM.bind fun y=>if y.t.kind=7 then Pm.pure (one ⟨1,0,⟨#[]⟩,0,0⟩ l) else (P n (if fixedT y.t=k_let then .gl else .fu)).bind fun x=>P n (.pg (l.app x))
 | n+1,.bl=>(wantM k_lcu).bind fun y=>(P n (.blT nil)).bind fun l=>Pm.pure (one (atN 5 y) l)
 | n+1,.blT l=>lookM.bind fun y=>if fixedT y.t=k_rcu then (wantM k_rcu).bind fun _=>Pm.pure l else (P n .st).bind fun x=>P n (.blT (l.app x))
 | n+1,.st=>lookM.bind fun y=>if fixedT y.t=k_let then P n .lt else if fixedT y.t=k_if then P n .iF else if fixedT y.t=k_while then P n .wh else if fixedT y.t=k_for then P n .fr else if fixedT y.t=k_break then P n (.jm 13) else if fixedT y.t=k_continue then P n (.jm 14) else if fixedT y.t=k_return then P n .rt else if fixedT y.t=k_out then P n .ou else stM.bind fun s=>if y.t.kind=1∧colon s=true then P n .lb else P n .pl
 | n+1,.lt=>(wantM k_let).bind fun _=>nameM.bind fun y=>(wantM k_eqs).bind fun _=>(P n .ex).bind fun v=>(wantM k_semi).bind fun _=>Pm.pure (one (ofN 6 y) v)
 | n+1,.iF=>(wantM k_if).bind fun y=>(P n .ex).bind fun c=>(P n .bl).bind fun b=>lookM.bind fun z=>if fixedT z.t=k_else then takeM.bind fun _=>lookM.bind fun z=>(P n (if fixedT z.t=k_if then .iF else .bl)).bind fun d=>Pm.pure (one (atN 9 y) ((c.app b).app d)) else Pm.pure (one (atN 9 y) (c.app b))
 | n+1,.wh=>(wantM k_while).bind fun y=>(P n .ex).bind fun c=>(P n .bl).bind fun b=>Pm.pure (one (atN 10 y) (c.app b))
 | n+1,.fr=>(wantM k_for).bind fun y=>nameM.bind fun v=>(wantM k_in).bind fun _=>(P n .ex).bind fun f=>(wantM k_dots).bind fun _=>(P n .ex).bind fun t=>(P n .bl).bind fun b=>Pm.pure (one ⟨11,y.a,v.t.text,0,0⟩ ((f.app t).app b))
 | n+1,.lb=>nameM.bind fun y=>(wantM k_col).bind fun _=>lookM.bind fun z=>if fixedT z.t=k_for then (P n .fr).bind fun f=>Pm.pure (match f with | .cons m ks r=>.cons m ((one (ofN 12 y) nil).app ks) r | .nil=>.nil) else (P n .wh).bind fun f=>Pm.pure (match f with | .cons m ks r=>.cons ⟨m.kind,m.a,y.t.text,m.int,m.bits⟩ ks r | .nil=>.nil)
 | _+1,.jm k=>takeM.bind fun y=>lookM.bind fun z=>if fixedT z.t=k_semi then (wantM k_semi).bind fun _=>Pm.pure (one (atN k y) nil) else nameM.bind fun v=>(wantM k_semi).bind fun _=>Pm.pure (one ⟨k,y.a,v.t.text,0,0⟩ nil)
 | n+1,.rt=>(wantM k_return).bind fun y=>lookM.bind fun z=>if fixedT z.t=k_semi then (wantM k_semi).bind fun _=>Pm.pure (one (atN 15 y) nil) else (P n .ex).bind fun v=>(wantM k_semi).bind fun _=>Pm.pure (one (atN 15 y) v)
 | n+1,.ou=>(wantM k_out).bind fun y=>(P n .ex).bind fun v=>(wantM k_semi).bind fun _=>Pm.pure (one (atN 16 y) v)
 | n+1,.pl=>(P n .ex).bind fun f=>lookM.bind fun z=>match f with
  | .nil=>Pm.pure f
  | .cons m ks _=>if fixedT z.t=k_eqs∧m.kind=25 then P n (.asg ⟨7,m.a,m.text,m.int,m.bits⟩ ks) else if fixedT z.t=k_eqs∧m.kind=24 then P n (.asg ⟨8,m.a,m.text,m.int,m.bits⟩ ks) else (wantM k_semi).bind fun _=>Pm.pure (one ⟨17,m.a,⟨#[]⟩,0,0⟩ f)
 | n+1,.asg m ks=>(wantM k_eqs).bind fun _=>(P n .ex).bind fun v=>(wantM k_semi).bind fun _=>Pm.pure (one m (ks.app v))
def Pm.Le{α:Type}(x y:Pm α):Prop:=∀s r,x s=some r→y s=some r
theorem Pm.Le.refl{α:Type}(x:Pm α):Pm.Le x x:=fun _ _ h=>h
theorem Pm.Le.trans{α:Type}{x y z:Pm α}(h:Pm.Le x y)(g:Pm.Le y z):Pm.Le x z:=fun s r e=>g s r (h s r e)
theorem Pm.Le.bind{α β:Type}{x x':Pm α}{f f':α→Pm β}(h:Pm.Le x x')(g:∀a,Pm.Le (f a) (f' a)):Pm.Le (x.bind f) (x'.bind f'):=by
 intro s r e
 unfold Pm.bind at *
 cases hx:x s with
 | none=>rw[hx] at e;cases e
 | some q=>
  rw[hx] at e
  rw[h s q hx]
  match q,e with
  | .error q,e=>exact e
  | .ok (a,s'),e=>exact g a s' r e
theorem Pm.Le.ite{α:Type}{c:Prop}[Decidable c]{x x' y y':Pm α}(h:Pm.Le x x')(g:Pm.Le y y'):Pm.Le (if c then x else y) (if c then x' else y'):=by
 split
 ·exact h
 ·exact g
theorem P_succ:∀n nt,Pm.Le (P n nt) (P (n+1) nt)
 | 0,nt=>fun s r e=>by cases e
 | n+1,nt=>by
  have ih:=P_succ n
  cases nt <;> unfold P
  case pl=>
   refine Pm.Le.bind (ih _) fun f=>Pm.Le.bind (Pm.Le.refl _) fun z=>?_
   cases f with
   | nil=>exact Pm.Le.refl _
   | cons m ks r=>exact Pm.Le.ite (ih _) (Pm.Le.ite (ih _) (Pm.Le.refl _))
  all_goals (repeat (first|exact ih _|exact Pm.Le.refl _|refine Pm.Le.bind ?_ (fun _=>?_)|refine Pm.Le.ite ?_ ?_))
theorem P_mono{n m:Nat}(h:n≤m)(nt:Nt):Pm.Le (P n nt) (P m nt):=by
 induction m with
 | zero=>rw[Nat.le_zero.1 h];exact Pm.Le.refl _
 | succ m ih=>
  by_cases e:n=m+1
  ·rw[e];exact Pm.Le.refl _
  ·exact(ih (by omega)).trans (P_succ m nt)
theorem P_det{n m:Nat}{nt:Nt}{s:Cs}{r q:Rs Fo}(h:P n nt s=some r)(g:P m nt s=some q):r=q:=by
 have h1:=P_mono (Nat.le_max_left n m) nt s r h
 have g1:=P_mono (Nat.le_max_right n m) nt s q g
 rw[h1] at g1
 exact Option.some.inj g1
set_option linter.unusedVariables false
def Fz{α:Type}(F:Nat→Pm α)(s:Cs)(d:Nat):Prop:=∃n r,(∀m,n≤m→F m s=some r)∧∀a s',r=.ok (a,s')→s'.r.length+d≤s.r.length
section
variable {α β:Type} {F:Nat→Pm α} {s:Cs} {d e:Nat}
theorem Fz.less(h:Fz F s d)(he:e≤d):Fz F s e:=by
 obtain⟨n,r,h1,h2⟩:=h
 exact⟨n,r,h1,fun a s' q=>by have:=h2 a s' q;omega⟩
theorem Fz.bind{G:α→Nat→Pm β}(h:Fz F s d)(g:∀a s',s'.r.length+d≤s.r.length→Fz (G a) s' (e-d)):Fz (fun m=>(F m).bind fun a=>G a m) s e:=by
 obtain⟨n,r,h1,h2⟩:=h
 match r,h1,h2 with
 | .error x,h1,_=>exact⟨n,.error x,fun m hm=>by simp only[Pm.bind,h1 m hm],fun a s' q=>by cases q⟩
 | .ok (a,s'),h1,h2=>
  have hs:=h2 a s' rfl
  obtain⟨n',r',g1,g2⟩:=g a s' hs
  refine⟨max n n',r',fun m hm=>?_,fun b s2 q=>?_⟩
  ·simp only[Pm.bind,h1 m (by omega)]
   exact g1 m (by omega)
  ·have:=g2 b s2 q
   omega
theorem Fz.const{x:Pm α}{r:Rs α}(h:x s=some r)(hr:∀a s',r=.ok (a,s')→s'.r.length+d≤s.r.length):Fz (fun _=>x) s d:=⟨0,r,fun _ _=>h,hr⟩
theorem Fz.pure(a:α):Fz (fun _=>Pm.pure a) s 0:=Fz.const (r:=.ok (a,s)) rfl (by rintro a s' h;cases h;omega)
theorem Fz.fail(x:Flt):Fz (fun _=>(failM x:Pm α)) s d:=Fz.const (r:=.error x) rfl (by rintro a s' h;cases h)
theorem Fz.ite{c:Prop}[Decidable c]{G:Nat→Pm α}(h:c→Fz F s d)(g:¬c→Fz G s d):Fz (fun m=>if c then F m else G m) s d:=by
 by_cases hc:c
 ·obtain⟨n,r,h1,h2⟩:=h hc
  exact⟨n,r,fun m hm=>by simp only[hc,if_true];exact h1 m hm,h2⟩
 ·obtain⟨n,r,h1,h2⟩:=g hc
  exact⟨n,r,fun m hm=>by simp only[hc,if_false];exact h1 m hm,h2⟩
end
section
variable {s:Cs}
theorem Fz.lookF:Fz (fun _=>lookM) s 0:=by
 cases h:look s with
 | error x=>exact Fz.const (r:=.error x) (by simp only[lookM,h]) (by rintro a s' q;cases q)
 | ok y=>exact Fz.const (r:=.ok (y,s)) (by simp only[lookM,h]) (by rintro a s' q;cases q;omega)
theorem Fz.takeF:Fz (fun _=>takeM) s 1:=by
 cases h:look s with
 | error x=>exact Fz.const (r:=.error x) (by simp only[takeM,h]) (by rintro a s' q;cases q)
 | ok y=>
  refine Fz.const (r:=.ok (y,behind y s)) (by simp only[takeM,h]) ?_
  rintro a s' q
  cases q
  unfold look at h
  cases hr:s.r with
  | nil=>rw[hr] at h;cases h
  | cons z l=>simp[behind,hr]
theorem Fz.wantF(t:ByteArray):Fz (fun _=>wantM t) s 1:=by
 unfold wantM
 exact Fz.bind (e:=1) Fz.lookF fun y s' h=>Fz.ite (fun _=>Fz.takeF) (fun _=>Fz.fail _)
theorem Fz.nameF:Fz (fun _=>nameM) s 1:=by
 unfold nameM
 exact Fz.bind (e:=1) Fz.lookF fun y s' h=>Fz.ite (fun _=>Fz.takeF) (fun _=>Fz.fail _)
theorem Fz.stF:Fz (fun _=>stM) s 0:=Fz.const (r:=.ok (s,s)) rfl (by rintro a s' q;cases q;omega)
end
theorem Fz.step{nt:Nt}{s:Cs}{d:Nat}(h:Fz (fun m=>P (m+1) nt) s d):Fz (fun m=>P m nt) s d:=by
 obtain⟨n,r,h1,h2⟩:=h
 refine⟨n+1,r,fun m hm=>?_,h2⟩
 obtain⟨k,rfl⟩:∃k,m=k+1:=⟨m-1,by omega⟩
 exact h1 k (by omega)
def least:Nt→Nat
 | .exT _=>0
 | .cjT _=>0
 | .bnT _ _=>0
 | .poT _=>0
 | .pg _=>0
 | _=>1
def Al(L:Nat):Prop:=∀s:Cs,s.r.length<L→∀nt,Fz (fun m=>P m nt) s (least nt)
section
variable {L:Nat} {s:Cs}
theorem al_exT(h:Al L)(hs:s.r.length≤L)(l:Fo):Fz (fun m=>P m (.exT l)) s 0:=by
 refine Fz.step ?_
 simp only[P]
 exact Fz.bind Fz.lookF fun y s1 h1=>Fz.ite (fun _=>Fz.bind Fz.takeF fun y s2 h2=>Fz.bind ((h s2 (by omega) .cj).less (z0z _)) fun r s3 h3=>h s3 (by omega) (.exT _)) (fun _=>Fz.pure l)
theorem al_cjT(h:Al L)(hs:s.r.length≤L)(l:Fo):Fz (fun m=>P m (.cjT l)) s 0:=by
 refine Fz.step ?_
 simp only[P]
 exact Fz.bind Fz.lookF fun y s1 h1=>Fz.ite (fun _=>Fz.bind Fz.takeF fun y s2 h2=>Fz.bind ((h s2 (by omega) .ng).less (z0z _)) fun r s3 h3=>h s3 (by omega) (.cjT _)) (fun _=>Fz.pure l)
theorem al_bnT(h:Al L)(hs:s.r.length≤L)(k:Nat)(l:Fo):Fz (fun m=>P m (.bnT k l)) s 0:=by
 refine Fz.step ?_
 simp only[P]
 exact Fz.bind Fz.lookF fun y s1 h1=>Fz.ite (fun _=>Fz.bind Fz.takeF fun y s2 h2=>Fz.bind ((h s2 (by omega) (.bn (k+1))).less (z0z _)) fun r s3 h3=>h s3 (by omega) (.bnT k _)) (fun _=>Fz.pure l)
theorem al_poT(h:Al L)(hs:s.r.length≤L)(l:Fo):Fz (fun m=>P m (.poT l)) s 0:=by
 refine Fz.step ?_
 simp only[P]
 exact Fz.bind Fz.lookF fun y s1 h1=>Fz.ite (fun _=>Fz.bind Fz.takeF fun y s2 h2=>Fz.bind ((h s2 (by omega) .ex).less (z0z _)) fun r s3 h3=>Fz.bind ((Fz.wantF _).less (z0z _)) fun _ s4 h4=>h s4 (by omega) (.poT _)) (fun _=>Fz.pure l)
theorem al_nm(h:Al L)(hs:s.r.length≤L):Fz (fun m=>P m .nm) s 1:=by
 refine Fz.step ?_
 simp only[P]
 exact Fz.bind Fz.nameF fun y s1 h1=>Fz.bind Fz.lookF fun z s2 h2=>Fz.ite (fun _=>Fz.bind ((h s2 (by omega) (.ls false)).less (z0z _)) fun l s3 h3=>Fz.pure _) (fun _=>Fz.pure _)
theorem al_wd:Fz (fun m=>P m .wd) s 1:=by
 refine Fz.step ?_
 simp only[P]
 exact Fz.bind Fz.lookF fun y s1 h1=>Fz.ite (fun _=>Fz.bind Fz.takeF fun y s2 h2=>Fz.pure _) (fun _=>Fz.ite (fun _=>Fz.bind Fz.takeF fun y s2 h2=>Fz.pure _) (fun _=>Fz.bind (Fz.wantF _) fun y s2 h2=>Fz.pure _))
theorem al_pr(h:Al L)(hs:s.r.length≤L):Fz (fun m=>P m .pr) s 1:=by
 refine Fz.step ?_
 simp only[P]
 exact Fz.bind Fz.lookF fun y s1 h1=>Fz.ite (fun _=>Fz.bind Fz.takeF fun y s2 h2=>Fz.pure _) (fun _=>Fz.ite (fun _=>Fz.bind Fz.takeF fun y s2 h2=>Fz.pure _) (fun _=>Fz.ite (fun _=>Fz.bind Fz.takeF fun y s2 h2=>Fz.pure _) (fun _=>Fz.ite (fun _=>al_nm h (by omega)) (fun _=>Fz.ite (fun _=>al_wd) (fun _=>Fz.bind (Fz.wantF _) fun _ s2 h2=>Fz.bind ((h s2 (by omega) .ex).less (z0z _)) fun i s3 h3=>Fz.bind ((Fz.wantF _).less (z0z _)) fun _ s4 h4=>Fz.pure _)))))
theorem al_po(h:Al L)(hs:s.r.length≤L):Fz (fun m=>P m .po) s 1:=by
 refine Fz.step ?_
 simp only[P]
 exact Fz.bind (al_pr h hs) fun l s1 h1=>al_poT h (by omega) l
theorem al_un(h:Al L)(hs:s.r.length≤L):Fz (fun m=>P m .un) s 1:=by
 refine Fz.step ?_
 simp only[P]
 exact Fz.bind Fz.lookF fun y s1 h1=>Fz.ite (fun _=>Fz.bind Fz.takeF fun y s2 h2=>Fz.bind ((h s2 (by omega) .un).less (z0z _)) fun k s3 h3=>Fz.pure _) (fun _=>al_po h (by omega))
theorem al_bn(h:Al L):∀ (j k:Nat) (s:Cs),s.r.length≤L→7≤k+j→Fz (fun m=>P m (.bn k)) s 1
 | 0,k,s,hs,hk=>by
  refine Fz.step ?_
  simp only[P]
  exact Fz.ite (fun _=>al_un h hs) (fun c=>by omega)
 | j+1,k,s,hs,hk=>by
  refine Fz.step ?_
  simp only[P]
  exact Fz.ite (fun _=>al_un h hs) (fun _=>Fz.bind (al_bn h j (k+1) s hs (by omega)) fun l s1 h1=>al_bnT h (by omega) k l)
theorem al_cm(h:Al L)(hs:s.r.length≤L):Fz (fun m=>P m .cm) s 1:=by
 refine Fz.step ?_
 simp only[P]
 exact Fz.bind (al_bn h 6 1 s hs (by omega)) fun l s1 h1=>Fz.bind Fz.lookF fun y s2 h2=>Fz.ite (fun _=>Fz.bind (Fz.takeF.less (z0z _)) fun y s3 h3=>Fz.bind ((al_bn h 6 1 s3 (by omega) (by omega)).less (z0z _)) fun r s4 h4=>Fz.pure _) (fun _=>Fz.pure l)
theorem al_ng(h:Al L)(hs:s.r.length≤L):Fz (fun m=>P m .ng) s 1:=by
 refine Fz.step ?_
 simp only[P]
 exact Fz.bind Fz.lookF fun y s1 h1=>Fz.ite (fun _=>Fz.bind Fz.takeF fun y s2 h2=>Fz.bind ((h s2 (by omega) .ng).less (z0z _)) fun k s3 h3=>Fz.pure _) (fun _=>al_cm h (by omega))
theorem al_cj(h:Al L)(hs:s.r.length≤L):Fz (fun m=>P m .cj) s 1:=by
 refine Fz.step ?_
 simp only[P]
 exact Fz.bind (al_ng h hs) fun l s1 h1=>al_cjT h (by omega) l
theorem al_ex(h:Al L)(hs:s.r.length≤L):Fz (fun m=>P m .ex) s 1:=by
 refine Fz.step ?_
 simp only[P]
 exact Fz.bind (al_cj h hs) fun l s1 h1=>al_exT h (by omega) l
theorem al_pm:Fz (fun m=>P m .pm) s 1:=by
 refine Fz.step ?_
 simp only[P]
 exact Fz.bind Fz.nameF fun y s1 h1=>Fz.pure _
theorem al_lsT(h:Al L)(hs:s.r.length≤L)(p:Bool)(l:Fo):Fz (fun m=>P m (.lsT p l)) s 1:=by
 refine Fz.step ?_
 simp only[P]
 refine Fz.bind Fz.lookF fun y s1 h1=>Fz.ite (fun _=>Fz.bind (Fz.wantF _) fun _ s2 h2=>Fz.pure _) (fun _=>Fz.bind (d:=0) (Fz.ite (fun _=>Fz.pure _) (fun _=>(Fz.wantF _).less (z0z _))) fun _ s2 h2=>?_)
 refine Fz.bind (d:=1) ?_ fun x s3 h3=>(h s3 (by omega) (.lsT p _)).less (z0z _)
 cases p
 ·exact al_ex h (by omega)
 ·exact al_pm
theorem al_ls(h:Al L)(hs:s.r.length≤L)(p:Bool):Fz (fun m=>P m (.ls p)) s 1:=by
 refine Fz.step ?_
 simp only[P]
 exact Fz.bind (Fz.wantF _) fun _ s1 h1=>(h s1 (by omega) (.lsT p _)).less (z0z _)
theorem al_gl:Fz (fun m=>P m .gl) s 1:=by
 refine Fz.step ?_
 simp only[P]
 exact Fz.bind (Fz.wantF _) fun _ s1 h1=>Fz.bind (Fz.nameF.less (z0z _)) fun y s2 h2=>Fz.bind ((Fz.wantF _).less (z0z _)) fun _ s3 h3=>Fz.pure _
theorem al_fu(h:Al L)(hs:s.r.length≤L):Fz (fun m=>P m .fu) s 1:=by
 refine Fz.step ?_
 simp only[P]
 exact Fz.bind (Fz.wantF _) fun _ s1 h1=>Fz.bind (Fz.nameF.less (z0z _)) fun y s2 h2=>Fz.bind ((h s2 (by omega) (.ls true)).less (z0z _)) fun l s3 h3=>Fz.bind ((h s3 (by omega) .bl).less (z0z _)) fun b s4 h4=>Fz.pure _
theorem al_pg(h:Al L)(hs:s.r.length≤L)(l:Fo):Fz (fun m=>P m (.pg l)) s 0:=by
 refine Fz.step ?_
 simp only[P]
 refine Fz.bind Fz.lookF fun y s1 h1=>Fz.ite (fun _=>Fz.pure _) (fun _=>Fz.bind (d:=1) ?_ fun x s2 h2=>h s2 (by omega) (.pg _))
 split
 ·exact al_gl
 ·exact al_fu h (by omega)
theorem al_bl(h:Al L)(hs:s.r.length≤L):Fz (fun m=>P m .bl) s 1:=by
 refine Fz.step ?_
 simp only[P]
 exact Fz.bind (Fz.wantF _) fun y s1 h1=>Fz.bind ((h s1 (by omega) (.blT _)).less (z0z _)) fun l s2 h2=>Fz.pure _
theorem al_lt(h:Al L)(hs:s.r.length≤L):Fz (fun m=>P m .lt) s 1:=by
 refine Fz.step ?_
 simp only[P]
 exact Fz.bind (Fz.wantF _) fun _ s1 h1=>Fz.bind (Fz.nameF.less (z0z _)) fun y s2 h2=>Fz.bind ((Fz.wantF _).less (z0z _)) fun _ s3 h3=>Fz.bind ((h s3 (by omega) .ex).less (z0z _)) fun v s4 h4=>Fz.bind ((Fz.wantF _).less (z0z _)) fun _ s5 h5=>Fz.pure _
theorem al_iF(h:Al L)(hs:s.r.length≤L):Fz (fun m=>P m .iF) s 1:=by
 refine Fz.step ?_
 simp only[P]
 refine Fz.bind (Fz.wantF _) fun y s1 h1=>Fz.bind ((h s1 (by omega) .ex).less (z0z _)) fun c s2 h2=>Fz.bind ((h s2 (by omega) .bl).less (z0z _)) fun b s3 h3=>Fz.bind Fz.lookF fun z s4 h4=>Fz.ite (fun _=>Fz.bind (Fz.takeF.less (z0z _)) fun _ s5 h5=>Fz.bind Fz.lookF fun z s6 h6=>Fz.bind (d:=0) ?_ fun d s7 h7=>Fz.pure _) (fun _=>Fz.pure _)
 exact(h s6 (by omega) _).less (z0z _)
theorem al_wh(h:Al L)(hs:s.r.length≤L):Fz (fun m=>P m .wh) s 1:=by
 refine Fz.step ?_
 simp only[P]
 exact Fz.bind (Fz.wantF _) fun y s1 h1=>Fz.bind ((h s1 (by omega) .ex).less (z0z _)) fun c s2 h2=>Fz.bind ((h s2 (by omega) .bl).less (z0z _)) fun b s3 h3=>Fz.pure _
theorem al_fr(h:Al L)(hs:s.r.length≤L):Fz (fun m=>P m .fr) s 1:=by
 refine Fz.step ?_
 simp only[P]
 exact Fz.bind (Fz.wantF _) fun y s1 h1=>Fz.bind (Fz.nameF.less (z0z _)) fun v s2 h2=>Fz.bind ((Fz.wantF _).less (z0z _)) fun _ s3 h3=>Fz.bind ((h s3 (by omega) .ex).less (z0z _)) fun f s4 h4=>Fz.bind ((Fz.wantF _).less (z0z _)) fun _ s5 h5=>Fz.bind ((h s5 (by omega) .ex).less (z0z _)) fun t s6 h6=>Fz.bind ((h s6 (by omega) .bl).less (z0z _)) fun b s7 h7=>Fz.pure _
theorem al_lb(h:Al L)(hs:s.r.length≤L):Fz (fun m=>P m .lb) s 1:=by
 refine Fz.step ?_
 simp only[P]
 exact Fz.bind Fz.nameF fun y s1 h1=>Fz.bind ((Fz.wantF _).less (z0z _)) fun _ s2 h2=>Fz.bind Fz.lookF fun z s3 h3=>Fz.ite (fun _=>Fz.bind ((h s3 (by omega) .fr).less (z0z _)) fun f s4 h4=>Fz.pure _) (fun _=>Fz.bind ((h s3 (by omega) .wh).less (z0z _)) fun f s4 h4=>Fz.pure _)
theorem al_jm(k:Int):Fz (fun m=>P m (.jm k)) s 1:=by
 refine Fz.step ?_
 simp only[P]
 exact Fz.bind Fz.takeF fun y s1 h1=>Fz.bind Fz.lookF fun z s2 h2=>Fz.ite (fun _=>Fz.bind ((Fz.wantF _).less (z0z _)) fun _ s3 h3=>Fz.pure _) (fun _=>Fz.bind (Fz.nameF.less (z0z _)) fun v s3 h3=>Fz.bind ((Fz.wantF _).less (z0z _)) fun _ s4 h4=>Fz.pure _)
theorem al_rt(h:Al L)(hs:s.r.length≤L):Fz (fun m=>P m .rt) s 1:=by
 refine Fz.step ?_
 simp only[P]
 exact Fz.bind (Fz.wantF _) fun y s1 h1=>Fz.bind Fz.lookF fun z s2 h2=>Fz.ite (fun _=>Fz.bind ((Fz.wantF _).less (z0z _)) fun _ s3 h3=>Fz.pure _) (fun _=>Fz.bind ((h s2 (by omega) .ex).less (z0z _)) fun v s3 h3=>Fz.bind ((Fz.wantF _).less (z0z _)) fun _ s4 h4=>Fz.pure _)
theorem al_ou(h:Al L)(hs:s.r.length≤L):Fz (fun m=>P m .ou) s 1:=by
 refine Fz.step ?_
 simp only[P]
 exact Fz.bind (Fz.wantF _) fun y s1 h1=>Fz.bind ((h s1 (by omega) .ex).less (z0z _)) fun v s3 h3=>Fz.bind ((Fz.wantF _).less (z0z _)) fun _ s4 h4=>Fz.pure _
theorem al_asg(h:Al L)(hs:s.r.length≤L)(m:Nd)(ks:Fo):Fz (fun k=>P k (.asg m ks)) s 1:=by
 refine Fz.step ?_
 simp only[P]
 exact Fz.bind (Fz.wantF _) fun y s1 h1=>Fz.bind ((h s1 (by omega) .ex).less (z0z _)) fun v s3 h3=>Fz.bind ((Fz.wantF _).less (z0z _)) fun _ s4 h4=>Fz.pure _
theorem al_pl(h:Al L)(hs:s.r.length≤L):Fz (fun m=>P m .pl) s 1:=by
 refine Fz.step ?_
 simp only[P]
 refine Fz.bind (al_ex h hs) fun f s1 h1=>Fz.bind Fz.lookF fun z s2 h2=>?_
 cases f with
 | nil=>exact Fz.pure _
 | cons m ks r=>exact Fz.ite (fun _=>(h s2 (by omega) (.asg _ _)).less (z0z _)) (fun _=>Fz.ite (fun _=>(h s2 (by omega) (.asg _ _)).less (z0z _)) (fun _=>Fz.bind ((Fz.wantF _).less (z0z _)) fun _ s3 h3=>Fz.pure _))
theorem al_st(h:Al L)(hs:s.r.length≤L):Fz (fun m=>P m .st) s 1:=by
 refine Fz.step ?_
 simp only[P]
 exact Fz.bind Fz.lookF fun y s1 h1=>Fz.ite (fun _=>al_lt h (by omega)) fun _=>Fz.ite (fun _=>al_iF h (by omega)) fun _=>Fz.ite (fun _=>al_wh h (by omega)) fun _=>Fz.ite (fun _=>al_fr h (by omega)) fun _=>Fz.ite (fun _=>al_jm _) fun _=>Fz.ite (fun _=>al_jm _) fun _=>Fz.ite (fun _=>al_rt h (by omega)) fun _=>Fz.ite (fun _=>al_ou h (by omega)) fun _=>Fz.bind Fz.stF fun q s2 h2=>Fz.ite (fun _=>al_lb h (by omega)) fun _=>al_pl h (by omega)
theorem al_blT(h:Al L)(hs:s.r.length≤L)(l:Fo):Fz (fun m=>P m (.blT l)) s 1:=by
 refine Fz.step ?_
 simp only[P]
 exact Fz.bind Fz.lookF fun y s1 h1=>Fz.ite (fun _=>Fz.bind (Fz.wantF _) fun _ s2 h2=>Fz.pure _) (fun _=>Fz.bind (al_st h (by omega)) fun x s2 h2=>(h s2 (by omega) (.blT _)).less (z0z _))
end
theorem al_all:∀L,Al L
 | 0=>fun s hs=>by omega
 | L+1=>fun s hs nt=>by
  have h:=al_all L
  have hs:s.r.length≤L:=by omega
  cases nt with
  | ex=>exact al_ex h hs
  | exT l=>exact al_exT h hs l
  | cj=>exact al_cj h hs
  | cjT l=>exact al_cjT h hs l
  | ng=>exact al_ng h hs
  | cm=>exact al_cm h hs
  | bn k=>exact al_bn h 7 k s hs (by omega)
  | bnT k l=>exact al_bnT h hs k l
  | un=>exact al_un h hs
  | po=>exact al_po h hs
  | poT l=>exact al_poT h hs l
  | pr=>exact al_pr h hs
  | nm=>exact al_nm h hs
  | wd=>exact al_wd
  | ls p=>exact al_ls h hs p
  | lsT p l=>exact al_lsT h hs p l
  | pm=>exact al_pm
  | gl=>exact al_gl
  | fu=>exact al_fu h hs
  | pg l=>exact al_pg h hs l
  | bl=>exact al_bl h hs
  | blT l=>exact al_blT h hs l
  | st=>exact al_st h hs
  | lt=>exact al_lt h hs
  | iF=>exact al_iF h hs
  | wh=>exact al_wh h hs
  | fr=>exact al_fr h hs
  | lb=>exact al_lb h hs
  | jm k=>exact al_jm k
  | rt=>exact al_rt h hs
  | ou=>exact al_ou h hs
  | pl=>exact al_pl h hs
  | asg m ks=>exact al_asg h hs m ks
theorem P_ends(nt:Nt)(s:Cs):∃n r,P n nt s=some r:=by
 obtain⟨n,r,h,_⟩:=al_all (s.r.length+1) s (by omega) nt
 exact⟨n,r,h n (Nat.le_refl _)⟩
end Go.Proofs.YtfmioihcaohgiaaGreatDoor.W.Tr
