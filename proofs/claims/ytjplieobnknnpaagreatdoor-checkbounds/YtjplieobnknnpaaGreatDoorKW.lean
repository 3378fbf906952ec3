import Derived.Test.YtjplieobnknnpaaGreatDoorKA
import Derived.Test.YtjplieobnknnpaaGreatDoorJM
import Derived.Test.YtjplieobnknnpaaGreatDoorKD
open List renaming length_cons → z0z, length_append → z1z, length_nil → z2z
set_option maxRecDepth 1000000
set_option maxHeartbeats 8000000
namespace Go.Proofs.YtjplieobnknnpaaGreatDoor.W.Tr
set_option linter.unusedVariables false
set_option linter.unusedSimpArgs false
def Ih(y:Yd):Prop:=y.t.text.size<=6000/\(-9223372036854775808<=y.t.int/\y.t.int<=9223372036854775807)/\0<=y.t.bits/\y.t.bits<18446744073709551616
def To(s:Cs):Prop:=∀y ∈ s.r,Ih y
def FY(n:Nd):Prop:=(1<=n.kind/\n.kind<=31)/\n.text.size<=6000/\(-9223372036854775808<=n.int/\n.int<=9223372036854775807)/\0<=n.bits/\n.bits<18446744073709551616
def Ce:Fo->Prop
 | .nil=>True
 | .cons n ks r=>FY n/\Ce ks/\Ce r
theorem QB:∀ {f g:Fo},Ce f->Ce g->Ce (f.app g)
 | .nil,g,_,h=>h
 | .cons n ks r,g,⟨h1,h2,h3⟩,h=>⟨h1,h2,QB h3 h⟩
theorem Ur{n:Nd}{k:Fo}(h:FY n)(hk:Ce k):Ce (Fo.one n k):=⟨h,hk,trivial⟩
theorem Pd(k:Int)(y:Yd)(h:1<=k/\k<=31):FY (Ap k y):=⟨h,(by show (⟨#[]⟩:ByteArray).size<=6000;decide),⟨by simp[Ap],by simp[Ap]⟩,by simp[Ap],by simp[Ap]⟩
theorem R6(k:Int){y:Yd}(h:1<=k/\k<=31)(hy:Ih y):FY (BD k y):=⟨h,hy.1,hy.2.1,hy.2.2⟩
theorem Qj(k a:Int){y:Yd}(h:1<=k/\k<=31)(hy:Ih y):FY ⟨k,a,y.t.text,0,0⟩:=⟨h,hy.1,⟨by simp,by simp⟩,by simp,by simp⟩
theorem VK(k a:Int)(h:1<=k/\k<=31):FY ⟨k,a,⟨#[]⟩,0,0⟩:=⟨h,(by show (⟨#[]⟩:ByteArray).size<=6000;decide),⟨by simp,by simp⟩,by simp,by simp⟩
theorem mP(k:Int)(h:1<=k/\k<=31){m:Nd}(hm:FY m):FY ⟨k,m.a,m.text,m.int,m.bits⟩:=⟨h,hm.2⟩
theorem vV{m:Nd}{y:Yd}(hm:FY m)(hy:Ih y):FY ⟨m.kind,m.a,y.t.text,m.int,m.bits⟩:=⟨hm.1,hy.1,hm.2.2⟩
section
variable {α:Type} {s:Cs}
theorem Sj(hs:To s){y:Yd}(h:look s=.ok y):Ih y/\To (behind y s):=by
 unfold look at h
 cases hr:s.r with
 | nil=>rw[hr] at h;cases h
 | cons z zs=>
  rw[hr] at h
  simp only at h
  split at h
  ·split at h
   ·cases h
   ·cases h
    refine⟨hs _ (by rw[hr];simp),λx hx=>hs x ?_⟩
    simp[behind,hr] at hx
    rw[hr]
    simp[hx]
  ·cases h
theorem Wo.look{Q:Yd->Cs->Prop}(hs:To s)(h:∀y,Ih y->Q y s):Wp BJ s Q:=by
 intro b s2 e
 unfold BJ at e
 cases hl:Tr.look s with
 | error _=>rw[hl] at e;cases e
 | ok y=>rw[hl] at e;cases e;exact h _ (Sj hs hl).1
theorem Wo.take{Q:Yd->Cs->Prop}(hs:To s)(h:∀y s',Ih y->To s'->Q y s'):Wp Bf s Q:=by
 intro b s2 e
 unfold Bf at e
 cases hl:Tr.look s with
 | error _=>rw[hl] at e;cases e
 | ok y=>rw[hl] at e;cases e;exact h _ _ (Sj hs hl).1 (Sj hs hl).2
theorem Wo.want{t:ByteArray}{Q:Yd->Cs->Prop}(hs:To s)(h:∀y s',Ih y->To s'->Q y s'):Wp (Bg t) s Q:=
 Wp.bind (Wo.look hs λy _=>Wp.ite (λ_=>Wo.take hs h) (λ_=>Wp.fail))
theorem Wo.name{Q:Yd->Cs->Prop}(hs:To s)(h:∀y s',Ih y->To s'->Q y s'):Wp Er s Q:=
 Wp.bind (Wo.look hs λy _=>Wp.ite (λ_=>Wo.take hs h) (λ_=>Wp.fail))
end
def aP:Nt->Prop
 | .exT l=>Ce l | .cjT l=>Ce l | .bnT _ l=>Ce l | .poT l=>Ce l | .lsT _ l=>Ce l | .pg l=>Ce l | .blT l=>Ce l
 | .asg n ks=>FY n/\Ce ks
 | .jm k=>1<=k/\k<=31
 | _=>True
theorem Uo:∀ (n:Nat) (nt:Nt) (s:Cs),To s->aP nt->Wp (P n nt) s (λa s'=>Ce a/\To s')
 | 0,nt,s,hs,hp=>by intro a s' e;cases e
 | n+1,nt,s,hs,hp=>by
  have ih:∀ (nt:Nt) (s:Cs) (Q:Fo->Cs->Prop),To s->aP nt->(∀a s',Ce a->To s'->Q a s')->Wp (P n nt) s Q:=λnt s Q hs hp h a s' e=>h a s' (Uo n nt s hs hp a s' e).1 (Uo n nt s hs hp a s' e).2
  cases nt
  all_goals unfold P
  case' exT l=>have hp:Ce l:=hp
  case' cjT l=>have hp:Ce l:=hp
  case' bnT k l=>have hp:Ce l:=hp
  case' poT l=>have hp:Ce l:=hp
  case' lsT p l=>have hp:Ce l:=hp
  case' pg l=>have hp:Ce l:=hp
  case' blT l=>have hp:Ce l:=hp
  case' jm k=>have hp:1<=k/\k<=31:=hp
  case' asg m ks=>obtain⟨hp,hp2⟩:FY m/\Ce ks:=hp
  case' pl=>
   refine Wp.bind (ih _ _ _ hs trivial λf s1 h1 h2=>?_)
   refine Wp.bind (Wo.look h2 λz hz=>?_)
   cases f
  case' pl.cons m ks r=>obtain⟨h3,h4,h5⟩:=id h1
  all_goals (repeat' (first|(with_reducible refine Wo.want (by assumption) ?_;intro _ _ _ _)|(with_reducible refine Wo.name (by assumption) ?_;intro _ _ _ _)|(with_reducible refine Wp.bind ?_)|(with_reducible refine Wo.look (by assumption) ?_;intro _ _)|(with_reducible refine Wo.take (by assumption) ?_;intro _ _ _ _)|(with_reducible refine Wp.st ?_)|(with_reducible exact Wp.fail)|(with_reducible refine Wp.pure ?_)|(with_reducible refine Wp.ite ?_ ?_ <;> intro _)|(refine ih _ _ _ (by assumption) ?_ ?_;rotate_left;intro _ _ _ _)))
  all_goals first
   | (refine⟨?_,by assumption⟩;(repeat' (first|assumption|exact trivial|(with_reducible refine Ur ?_ ?_)|(with_reducible refine QB ?_ ?_)|(show FY _;(first|exact Pd _ _ (by decide)|exact VK _ _ (by decide)|exact R6 _ (by decide) (by assumption)|exact Qj _ _ (by decide) (by assumption)|exact Pd _ _ (by assumption)|exact Qj _ _ (by assumption) (by assumption)|assumption))|(show Ce _;assumption)));done)
   | (exact trivial)
   | (show Ce _;(repeat' (first|assumption|exact trivial|(with_reducible refine Ur ?_ ?_)|(with_reducible refine QB ?_ ?_)|(show FY _;(first|exact Pd _ _ (by decide)|exact VK _ _ (by decide)|exact R6 _ (by decide) (by assumption)|exact Qj _ _ (by decide) (by assumption)|exact Pd _ _ (by assumption)|exact Qj _ _ (by assumption) (by assumption)|assumption))|(show Ce _;assumption)));done)
   | (show 1<=_/\_;decide)
   | (show FY _/\Ce _;exact⟨mP _ (by decide) h3,h4⟩)
   | (split <;> exact trivial)
   | (refine⟨?_,by assumption⟩;split;rename_i m ks r hh;obtain⟨x1,x2,x3⟩:=(by assumption:Ce (Fo.cons m ks r));exact⟨x1,QB (Ur (R6 _ (by decide) (by assumption)) trivial) x2,x3⟩;exact trivial)
   | (refine⟨?_,by assumption⟩;split;rename_i m ks r hh;obtain⟨x1,x2,x3⟩:=(by assumption:Ce (Fo.cons m ks r));exact⟨vV x1 (by assumption),x2,x3⟩;exact trivial)
theorem Qg:∀ {f:Fo},Ce f->∀p ∈ AJ f,FY p.1
 | .nil,_,p,hp=>by simp[AJ] at hp
 | .cons n ks r,⟨h1,h2,h3⟩,p,hp=>by
  simp only[AJ,List.mem_cons,List.mem_append] at hp
  rcases hp with rfl|hp|hp
  ·exact h1
  ·exact Qg h2 p hp
  ·exact Qg h3 p hp
def Gd(s:Cs):Prop:=∃xs z,s.r=xs++[z]/\(z.c=0->z.t.kind=7)
def Wq{α:Type}(x:Pm α)(s:Cs)(Q:α->Cs->Prop):Prop:=∀r,x s=some r->(∀f,r=.error f->f.1≠0)/\∀a s',r=.ok (a,s')->Q a s'
section
variable {α β:Type} {s:Cs}
theorem Wq.bind{x:Pm α}{f:α->Pm β}{Q:β->Cs->Prop}(h:Wq x s (λa s'=>Wq (f a) s' Q)):Wq (x.bind f) s Q:=by
 intro r e
 rcases Af e with⟨g,h1,rfl⟩|⟨a,s',h1,h2⟩
 ·exact⟨λf' hf=>(h _ h1).1 _ (by cases hf;rfl),λa s' hh=>by cases hh⟩
 ·exact(h _ h1).2 a s' rfl r h2
theorem Wq.pure{a:α}{Q:α->Cs->Prop}(h:Q a s):Wq (Pm.pure a) s Q:=by
 intro r e
 have:=Ag e
 subst this
 exact⟨λf hf=>by (cases hf),λb s' hh=>by (cases hh;exact h)⟩
theorem Wq.fail{e:Ci}{Q:α->Cs->Prop}(h:e.1≠0):Wq (JO e) s Q:=by
 intro r e'
 have:r=.error e:=(Option.some.inj e').symm
 subst this
 exact⟨λf hf=>by (cases hf;exact h),λb s' hh=>by cases hh⟩
theorem bL(hg:Gd s):(∃e,look s=.error e/\e.1≠0)\/∃y,look s=.ok y:=by
 obtain⟨xs,z,hr,hz⟩:=hg
 unfold look
 cases hs:s.r with
 | nil=>rw[hs] at hr;simp at hr
 | cons y ys=>
  simp only
  by_cases hc:y.c=0
  ·rw[if_pos hc]
   split
   ·exact .inl ⟨_,rfl,show (71:Int)≠0 by decide⟩
   ·exact .inr ⟨_,rfl⟩
  ·rw[if_neg hc]
   exact .inl ⟨_,rfl,hc⟩
theorem Wq.look{Q:Yd->Cs->Prop}(hg:Gd s)(h:∀y,Tr.look s=.ok y->Q y s):Wq BJ s Q:=by
 intro r e
 unfold BJ at e
 rcases bL hg with⟨f,h1,h2⟩|⟨y,h1⟩
 ·rw[h1] at e
  have:r=.error f:=(Option.some.inj e).symm
  subst this
  exact⟨λf' hf=>by (cases hf;exact h2),λb s' hh=>by cases hh⟩
 ·rw[h1] at e
  have:r=.ok (y,s):=(Option.some.inj e).symm
  subst this
  exact⟨λf' hf=>by (cases hf),λb s' hh=>by (cases hh;exact h y h1)⟩
theorem lM(hg:Gd s){y:Yd}(hl:Tr.look s=.ok y)(hk:y.t.kind≠7):Gd (behind y s):=by
 obtain⟨xs,z,hr,hz⟩:=hg
 cases xs with
 | nil=>
  exfalso
  unfold Tr.look at hl
  rw[hr] at hl
  simp only[List.nil_append] at hl
  by_cases hc:z.c=0
  ·rw[if_pos hc] at hl
   split at hl
   ·cases hl
   ·cases hl
    exact hk (hz hc)
  ·rw[if_neg hc] at hl
   cases hl
 | cons x xs=>exact⟨xs,z,by simp[behind,hr],hz⟩
theorem Wq.take{Q:Yd->Cs->Prop}(hg:Gd s)(hk:∀y,Tr.look s=.ok y->y.t.kind≠7)(h:∀y s',Gd s'->Q y s'):Wq Bf s Q:=by
 intro r e
 unfold Bf at e
 rcases bL hg with⟨f,h1,h2⟩|⟨y,h1⟩
 ·rw[h1] at e
  have:r=.error f:=(Option.some.inj e).symm
  subst this
  exact⟨λf' hf=>by (cases hf;exact h2),λb s' hh=>by cases hh⟩
 ·rw[h1] at e
  have:r=.ok (y,behind y s):=(Option.some.inj e).symm
  subst this
  exact⟨λf' hf=>by (cases hf),λb s' hh=>by (cases hh;exact h y _ (lM hg h1 (hk y h1)))⟩
theorem Wq.ite{c:Prop}[Decidable c]{x y:Pm α}{Q:α->Cs->Prop}(h:c->Wq x s Q)(g:¬c->Wq y s Q):Wq (if c then x else y) s Q:=by
 by_cases k:c
 ·rw[if_pos k];exact h k
 ·rw[if_neg k];exact g k
theorem Nn{t:Tk}{k:ByteArray}(h:AP t=k)(hk:k≠⟨#[]⟩):t.kind≠7:=by
 intro e
 unfold AP at h
 rw[if_neg (by omega)] at h
 exact hk h.symm
theorem Qw{y:Yd}(h:Tr.look s=.ok y){p:Yd->Prop}(hp:p y):∀z,Tr.look s=.ok z->p z:=by
 intro z hz
 rw[h] at hz
 cases hz
 exact hp
theorem Wq.want{t:ByteArray}{Q:Yd->Cs->Prop}(hg:Gd s)(ht:t≠⟨#[]⟩)(h:∀y s',Gd s'->Q y s'):Wq (Bg t) s Q:=
 Wq.bind (Wq.look hg λy hy=>Wq.ite (λhf=>Wq.take hg (Qw hy (p:=λy=>y.t.kind≠7) (Nn hf ht)) h) (λ_=>Wq.fail (show (70:Int)≠0 by decide)))
theorem Wq.name{Q:Yd->Cs->Prop}(hg:Gd s)(h:∀y s',Gd s'->Q y s'):Wq Er s Q:=
 Wq.bind (Wq.look hg λy hy=>Wq.ite (λhf=>Wq.take hg (Qw hy (p:=λy=>y.t.kind≠7) (by omega)) h) (λ_=>Wq.fail (show (70:Int)≠0 by decide)))
end
def Vt:Nt->Cs->Prop
 | .bn k,_=>1<=k
 | .bnT k _,_=>1<=k
 | .jm _,s=>∀y,look s=.ok y->y.t.kind≠7
 | _,_=>True
theorem Wq.st{s:Cs}{Q:Cs->Cs->Prop}(h:Q s s):Wq stM s Q:=by
 intro r e
 have:r=.ok (s,s):=(Option.some.inj e).symm
 subst this
 exact⟨λf hf=>by (cases hf),λb s' hh=>by (cases hh;exact h)⟩
theorem YJ{t:Tk}(h:comp (AP t)=true):t.kind≠7:=by
 intro e
 unfold AP at h
 rw[if_neg (by omega)] at h
 revert h
 decide
theorem XC{t:Tk}{k:Nat}(h:tight (AP t)=k)(hk:1<=k):t.kind≠7:=by
 intro e
 unfold AP at h
 rw[if_neg (by omega)] at h
 have:tight ⟨#[]⟩=0:=by decide
 omega
theorem Uv:∀ (n:Nat) (nt:Nt) (s:Cs),Gd s->Vt nt s->Wq (P n nt) s (λ_ s'=>Gd s')
 | 0,nt,s,hg,hp=>by intro r e;cases e
 | n+1,nt,s,hg,hp=>by
  have ih:∀ (nt:Nt) (s:Cs) (Q:Fo->Cs->Prop),Gd s->Vt nt s->(∀a s',Gd s'->Q a s')->Wq (P n nt) s Q:=λnt s Q hg hp h r e=>⟨(Uv n nt s hg hp r e).1,λa s' hh=>h a s' ((Uv n nt s hg hp r e).2 a s' hh)⟩
  cases nt
  all_goals unfold P
  case' pl=>
   refine Wq.bind (ih _ _ _ hg trivial λf s1 h1=>?_)
   refine Wq.bind (Wq.look h1 λz hz=>?_)
   cases f
  case' bn k=>have hp:1<=k:=hp
  case' bnT k l=>have hp:1<=k:=hp
  case' jm k=>
   have hp:∀y,look s=.ok y->y.t.kind≠7:=hp
   refine Wq.bind (Wq.take hg hp λy s1 h1=>?_)
  all_goals (repeat' (first|assumption|(with_reducible refine Wq.want (by assumption) (by decide) ?_;intro _ _ _)|(with_reducible refine Wq.name (by assumption) ?_;intro _ _ _)|(with_reducible refine Wq.bind ?_)|(with_reducible refine Wq.look (by assumption) ?_;intro _ _)|(with_reducible refine Wq.take (by assumption) (Qw (by assumption) (p:=λy=>y.t.kind≠7) (by (first|exact Nn (by assumption) (by decide)|exact YJ (by assumption)|exact XC (by assumption) (by assumption)|omega|(rename_i hor;rcases hor with h|h <;> exact Nn h (by decide))))) ?_;intro _ _ _)|(with_reducible refine Wq.st ?_)|(with_reducible refine Wq.pure ?_)|(with_reducible refine Wq.ite ?_ ?_ <;> intro _)|(refine ih _ _ _ (by assumption) (by (first|exact trivial|(show 1<=_;omega)|(show _<=_;assumption)|(exact Qw (by assumption) (p:=λy=>y.t.kind≠7) (by (first|exact Nn (by assumption) (by decide)|exact YJ (by assumption)|exact XC (by assumption) (by assumption)|omega|(rename_i hor;rcases hor with h|h <;> exact Nn h (by decide)))))|(split <;> exact trivial))) ?_;intro _ _ _)))
def EW(t:Tk):Prop:=(t.kind=1->nameP t.text=true/\t.int=0/\t.bits=0)/\(t.kind=2\/t.kind=3->t.int=0/\t.bits=0)/\(t.kind=4->t.text=⟨#[]⟩/\0<=t.int/\t.bits=0)/\(t.kind=5->t.text=⟨#[]⟩/\t.int=0/\(t.bits<=9218868437227405312\/t.bits=9221120237041090560))/\(t.kind=6->t.int=0/\t.bits=0)
def Tg(s:Cs):Prop:=∀y ∈ s.r,y.c=0->EW y.t
def NG(n:Nd):Prop:=D9 (CZ n.kind).text n.text=true/\GU n.kind n.int n.bits=true
inductive So where|e|es|b|bi|st|i|w|f|ss|pm|pms|u|us
inductive Wt:So->Fo->Prop where
 | leaf {n:Nd}:n.kind=25\/n.kind=26\/n.kind=27\/n.kind=28\/n.kind=29\/n.kind=30\/n.kind=31->NG n->Wt .e (.cons n .nil .nil)
 | two {n:Nd} {x y:Fo}:n.kind=18\/n.kind=19\/n.kind=21\/n.kind=24->NG n->Wt .e x->Wt .e y->Wt .e (.cons n (x.app y) .nil)
 | one {n:Nd} {x:Fo}:n.kind=20\/n.kind=22->NG n->Wt .e x->Wt .e (.cons n x .nil)
 | call {n:Nd} {l:Fo}:n.kind=23->NG n->Wt .es l->Wt .e (.cons n l .nil)
 | enil:Wt .es .nil
 | esnoc {l x:Fo}:Wt .es l->Wt .e x->Wt .es (l.app x)
 | block {n:Nd} {l:Fo}:n.kind=5->NG n->Wt .ss l->Wt .b (.cons n l .nil)
 | snil:Wt .ss .nil
 | ssnoc {l x:Fo}:Wt .ss l->Wt .st x->Wt .ss (l.app x)
 | s1 {n:Nd} {x:Fo}:n.kind=6\/n.kind=7\/n.kind=15\/n.kind=16\/n.kind=17->NG n->Wt .e x->Wt .st (.cons n x .nil)
 | s0 {n:Nd}:n.kind=13\/n.kind=14\/n.kind=15->NG n->Wt .st (.cons n .nil .nil)
 | store {n:Nd} {x y v:Fo}:n.kind=8->NG n->Wt .e x->Wt .e y->Wt .e v->Wt .st (.cons n ((x.app y).app v) .nil)
 | if2 {n:Nd} {c b:Fo}:n.kind=9->NG n->Wt .e c->Wt .b b->Wt .i (.cons n (c.app b) .nil)
 | if3 {n:Nd} {c b d:Fo}:n.kind=9->NG n->Wt .e c->Wt .b b->Wt .bi d->Wt .i (.cons n ((c.app b).app d) .nil)
 | bib {d:Fo}:Wt .b d->Wt .bi d
 | bii {d:Fo}:Wt .i d->Wt .bi d
 | sti {x:Fo}:Wt .i x->Wt .st x
 | whil {n:Nd} {c b:Fo}:n.kind=10->NG n->Wt .e c->Wt .b b->Wt .w (.cons n (c.app b) .nil)
 | stw {x:Fo}:Wt .w x->Wt .st x
 | fore {n:Nd} {f t b:Fo}:n.kind=11->NG n->Wt .e f->Wt .e t->Wt .b b->Wt .f (.cons n ((f.app t).app b) .nil)
 | stf {x:Fo}:Wt .f x->Wt .st x
 | lfor {n lb:Nd} {ks:Fo}:Wt .f (.cons n ks .nil)->lb.kind=12->NG lb->Wt .st (.cons n (.cons lb .nil ks) .nil)
 | param {n:Nd}:n.kind=4->NG n->Wt .pm (.cons n .nil .nil)
 | pnil:Wt .pms .nil
 | psnoc {l x:Fo}:Wt .pms l->Wt .pm x->Wt .pms (l.app x)
 | glob {n:Nd}:n.kind=2->NG n->Wt .u (.cons n .nil .nil)
 | func {n:Nd} {l b:Fo}:n.kind=3->NG n->Wt .pms l->Wt .b b->Wt .u (.cons n (l.app b) .nil)
 | unil:Wt .us .nil
 | usnoc {l x:Fo}:Wt .us l->Wt .u x->Wt .us (l.app x)
section
variable {α:Type} {s:Cs} {y:Yd}
theorem Py(hs:Tg s)(h:look s=.ok y):EW y.t/\Tg (behind y s):=by
 unfold look at h
 cases hr:s.r with
 | nil=>rw[hr] at h;cases h
 | cons z zs=>
  rw[hr] at h
  simp only at h
  by_cases c:z.c=0
  ·rw[if_pos c] at h
   split at h
   ·cases h
   ·cases h
    refine⟨hs _ (by rw[hr];simp) c,λx hx=>hs x ?_⟩
    simp[behind,hr] at hx
    rw[hr]
    simp[hx]
  ·rw[if_neg c] at h
   cases h
theorem Wz.look{Q:Yd->Cs->Prop}(hs:Tg s)(h:∀y,Tr.look s=.ok y->EW y.t->Q y s):Wp BJ s Q:=by
 intro b s2 e
 unfold BJ at e
 cases hl:Tr.look s with
 | error _=>rw[hl] at e;cases e
 | ok y=>rw[hl] at e;cases e;exact h _ hl (Py hs hl).1
theorem Wz.take{Q:Yd->Cs->Prop}(hs:Tg s)(hy:Tr.look s=.ok y)(h:∀s',Tg s'->Q y s'):Wp Bf s Q:=by
 intro b s2 e
 unfold Bf at e
 rw[hy] at e
 cases e
 exact h _ (Py hs hy).2
theorem Wz.any{Q:Yd->Cs->Prop}(hs:Tg s)(h:∀y s',EW y.t->Tg s'->Q y s'):Wp Bf s Q:=by
 intro b s2 e
 unfold Bf at e
 cases hl:Tr.look s with
 | error _=>rw[hl] at e;cases e
 | ok y=>rw[hl] at e;cases e;exact h _ _ (Py hs hl).1 (Py hs hl).2
theorem Wz.want{t:ByteArray}{Q:Yd->Cs->Prop}(hs:Tg s)(h:∀y s',EW y.t->AP y.t=t->Tg s'->Q y s'):Wp (Bg t) s Q:=
 Wp.bind (Wz.look hs λy hy g=>Wp.ite (λc=>Wz.take hs hy λs' h'=>h y s' g c h') (λ_=>Wp.fail))
theorem Wz.name{Q:Yd->Cs->Prop}(hs:Tg s)(h:∀y s',EW y.t->y.t.kind=1->Tg s'->Q y s'):Wp Er s Q:=
 Wp.bind (Wz.look hs λy hy g=>Wp.ite (λc=>Wz.take hs hy λs' h'=>h y s' g c h') (λ_=>Wp.fail))
end
def Wpg(fo:Fo):Prop:=∃l,fo=Fo.one ⟨1,0,⟨#[]⟩,0,0⟩ l/\Wt .us l
def Nr:Nt->Fo->Prop
 | .ls p,x=>Wt (if p=true then .pms else .es) x | .lsT p _,x=>Wt (if p=true then .pms else .es) x
 | .pm,x=>Wt .pm x | .gl,x=>Wt .u x | .fu,x=>Wt .u x | .pg _,x=>Wpg x | .bl,x=>Wt .b x | .blT _,x=>Wt .ss x
 | .iF,x=>Wt .i x | .wh,x=>Wt .w x/\∃n ks,x=.cons n ks .nil/\n.kind=10 | .fr,x=>Wt .f x
 | .st,x=>Wt .st x | .lt,x=>Wt .st x | .lb,x=>Wt .st x | .jm _,x=>Wt .st x | .rt,x=>Wt .st x | .ou,x=>Wt .st x | .pl,x=>Wt .st x | .asg _ _,x=>Wt .st x
 | _,x=>Wt .e x
def Ph:Nt->Prop
 | .exT l=>Wt .e l | .cjT l=>Wt .e l | .bnT k l=>1<=k/\Wt .e l | .poT l=>Wt .e l | .bn k=>1<=k
 | .lsT p l=>Wt (if p=true then .pms else .es) l | .pg l=>Wt .us l | .blT l=>Wt .ss l | .jm k=>k=13\/k=14
 | .asg n ks=>NG n/\(n.kind=7/\ks=.nil\/n.kind=8/\∃x y,Wt .e x/\Wt .e y/\ks=x.app y)
 | _=>True
theorem FK{k:Int}{y:Yd}(h:D9 (CZ k).text ⟨#[]⟩=true)(h2:GU k 0 0=true):NG (Ap k y):=⟨h,h2⟩
theorem RQ{t:Tk}{k:ByteArray}(h:AP t=k)(hk:k≠⟨#[]⟩):t.text=k/\(t.kind=2\/t.kind=3):=by
 unfold AP at h
 split at h
 ·exact⟨h,by assumption⟩
 ·exact absurd h.symm hk
theorem bO{k:Int}(h:k≠26)(h2:k≠27):GU k 0 0=true:=by unfold GU;rw[if_neg h,if_neg h2];rfl
theorem Ew{k a:Int}{y:Yd}(g:EW y.t)(c:y.t.kind=1)(hk:(CZ k).text=1\/(CZ k).text=2)(h:k≠26)(h2:k≠27):NG ⟨k,a,y.t.text,0,0⟩:=by
 refine⟨?_,bO h h2⟩
 have hn:=(g.1 c).1
 show D9 (CZ k).text y.t.text=true
 unfold D9
 rcases hk with e|e
 ·rw[if_pos e];exact hn
 ·rw[if_neg (by omega),if_pos e,hn];simp
theorem Fb{k:Int}{y:Yd}(g:EW y.t)(c:y.t.kind=1)(hk:(CZ k).text=1\/(CZ k).text=2)(h:k≠26)(h2:k≠27):NG (BD k y):=by
 have:=Ew (k:=k) (a:=y.a) g c hk h h2
 unfold BD
 rw[(g.1 c).2.1,(g.1 c).2.2]
 exact this
theorem Pg{k:Int}{y:Yd}(g:EW y.t)(c:y.t.kind=2\/y.t.kind=3)(ht:D9 (CZ k).text y.t.text=true)(h:k≠26)(h2:k≠27):NG (BD k y):=by
 refine⟨ht,?_⟩
 show GU k y.t.int y.t.bits=true
 rw[(g.2.1 c).1,(g.2.1 c).2]
 exact bO h h2
theorem GN{y:Yd}(g:EW y.t)(c:y.t.kind=4):NG (BD 26 y):=by
 obtain⟨h1,h2,h3⟩:=g.2.2.1 c
 refine⟨?_,?_⟩
 ·show D9 (CZ 26).text y.t.text=true
  rw[h1];kernel_rfl
 ·show GU 26 y.t.int y.t.bits=true
  unfold GU
  rw[if_pos rfl]
  exact decide_eq_true ⟨h2,h3⟩
theorem GI{y:Yd}(g:EW y.t)(c:y.t.kind=5):NG (BD 27 y):=by
 obtain⟨h1,h2,h3⟩:=g.2.2.2.1 c
 refine⟨?_,?_⟩
 ·show D9 (CZ 27).text y.t.text=true
  rw[h1];kernel_rfl
 ·show GU 27 y.t.int y.t.bits=true
  unfold GU
  rw[if_neg (by decide),if_pos rfl]
  exact decide_eq_true ⟨h2,h3⟩
theorem GD{y:Yd}(g:EW y.t)(c:y.t.kind=6):NG (BD 28 y):=by
 obtain⟨h1,h2⟩:=g.2.2.2.2 c
 refine⟨rfl,?_⟩
 show GU 28 y.t.int y.t.bits=true
 rw[h1,h2]
 rfl
theorem Fp{y:Yd}(g:EW y.t)(c:comp (AP y.t)=true):NG (BD 21 y):=by
 have h:=RQ (k:=AP y.t) rfl (by intro e;rw[e] at c;revert c;decide)
 refine Pg g h.2 ?_ (by decide) (by decide)
 show D9 3 y.t.text=true
 rw[h.1]
 unfold D9
 simp[c]
theorem GA{y:Yd}{k:Nat}(g:EW y.t)(c:tight (AP y.t)=k)(hk:1<=k):NG (BD 21 y):=by
 have h0:tight ⟨#[]⟩=0:=by decide
 have h:=RQ (k:=AP y.t) rfl (by intro e;rw[e] at c;omega)
 refine Pg g h.2 ?_ (by decide) (by decide)
 show D9 3 y.t.text=true
 rw[h.1]
 unfold D9
 have:¬tight (AP y.t)=0:=by omega
 simp[this]
theorem Fj{y:Yd}(g:EW y.t)(c:AP y.t=VD\/AP y.t=SX):NG (BD 22 y):=by
 rcases c with c|c
 ·have h:=RQ c (by decide)
  refine Pg g h.2 ?_ (by decide) (by decide)
  rw[h.1];kernel_rfl
 ·have h:=RQ c (by decide)
  refine Pg g h.2 ?_ (by decide) (by decide)
  rw[h.1];kernel_rfl
theorem ABd{m:Nd}(h:NG m)(hk:m.kind=25):NG ⟨7,m.a,m.text,m.int,m.bits⟩:=by
 unfold NG at *
 rw[hk] at h
 exact h
theorem sU{m:Nd}(h:NG m)(hk:m.kind=24):NG ⟨8,m.a,m.text,m.int,m.bits⟩:=by
 unfold NG at *
 rw[hk] at h
 exact h
theorem ku{m:Nd}{y:Yd}(h:NG m)(hk:m.kind=10)(g:EW y.t)(c:y.t.kind=1):NG ⟨m.kind,m.a,y.t.text,m.int,m.bits⟩:=by
 obtain⟨h1,h2⟩:=h
 rw[hk] at h2
 refine⟨?_,by show GU m.kind m.int m.bits=true;rw[hk];exact h2⟩
 show D9 (CZ m.kind).text y.t.text=true
 rw[hk]
 show D9 2 y.t.text=true
 unfold D9
 simp[(g.1 c).1]
theorem Gt{a:Int}:NG ⟨17,a,⟨#[]⟩,0,0⟩:=⟨by kernel_rfl,by kernel_rfl⟩
theorem gM{x:Fo}(h:Wt .e x):∃n ks,x=.cons n ks .nil:=by cases h <;> exact⟨_,_,rfl⟩
theorem sV{x:Fo}(h:Wt .f x):∃n ks,x=.cons n ks .nil:=by cases h <;> exact⟨_,_,rfl⟩
theorem AA0{x:Fo}(h:Nr .wh x):Wt .st x:=Wt.stw h.1
theorem sS{c:Prop}[Decidable c]{x:Fo}(h:Nr (if c then .gl else .fu) x):Wt .u x:=by split at h <;> exact h
theorem AAc{c:Prop}[Decidable c]{x:Fo}(h:Nr (if c then .iF else .bl) x):Wt .bi x:=by
 split at h
 ·exact Wt.bii h
 ·exact Wt.bib h
theorem rR{m:Nd}{ks r:Fo}{c:Prop}(h:Wt .e (.cons m ks r))(hk:c/\m.kind=25):Ph (.asg ⟨7,m.a,m.text,m.int,m.bits⟩ ks):=by
 have hk:=hk.2
 cases h with
 | leaf _ h=>exact⟨ABd h hk,.inl ⟨rfl,rfl⟩⟩
 | two h=>omega
 | one h=>omega
 | call h=>omega
theorem vD{m:Nd}{ks r:Fo}{c:Prop}(h:Wt .e (.cons m ks r))(hk:c/\m.kind=24):Ph (.asg ⟨8,m.a,m.text,m.int,m.bits⟩ ks):=by
 have hk:=hk.2
 cases h with
 | leaf h _=>omega
 | two _ h hx hy=>exact⟨sU h hk,.inr ⟨rfl,_,_,hx,hy,rfl⟩⟩
 | one h=>omega
 | call h=>omega
theorem ABg{m:Nd}{ks a:Fo}(hp:NG m)(hp2:m.kind=7/\ks=.nil\/m.kind=8/\∃x y,Wt .e x/\Wt .e y/\ks=x.app y)(ha:Wt .e a):Wt .st (Fo.one m (ks.app a)):=by
 rcases hp2 with⟨hk,rfl⟩|⟨hk,x,y,hx,hy,rfl⟩
 ·exact Wt.s1 (by simp[hk]) hp ha
 ·exact Wt.store hk hp hx hy ha
theorem Y9(n:Nat):∀ (nt:Nt) (s:Cs),Tg s->Ph nt->Wp (P n nt) s (λa s'=>Nr nt a/\Tg s'):=by
 induction n with
 | zero=>
  intro nt s hs hp a s' e
  cases e
 | succ n IH=>
  intro nt s hs hp
  have ih:∀ (nt:Nt) (s:Cs) (Q:Fo->Cs->Prop),Tg s->Ph nt->(∀a s',Nr nt a->Tg s'->Q a s')->Wp (P n nt) s Q:=λnt s Q hs hp h a s' e=>h a s' (IH nt s hs hp a s' e).1 (IH nt s hs hp a s' e).2
  clear IH
  cases nt
  all_goals unfold P
  case' exT l=>have hp:Wt .e l:=hp
  case' cjT l=>have hp:Wt .e l:=hp
  case' bn k=>have hp:1<=k:=hp
  case' bnT k l=>obtain⟨hp,hp2⟩:1<=k/\Wt .e l:=hp
  case' poT l=>have hp:Wt .e l:=hp
  case' blT l=>have hp:Wt .ss l:=hp
  case' pg l=>have hp:Wt .us l:=hp
  case' jm k=>
   have hp:k=13\/k=14:=hp
   refine Wp.bind (Wz.any hs λy s1 _ hs1=>?_)
   have hat:NG (Ap k y):=by rcases hp with rfl|rfl <;> (exact FK (by kernel_rfl) (by kernel_rfl))
   have hnm:∀v:Yd,EW v.t->v.t.kind=1->NG ⟨k,y.a,v.t.text,0,0⟩:=by
    intro v g c
    rcases hp with rfl|rfl <;> exact Ew g c (by decide) (by decide) (by decide)
   have hj:k=13\/k=14\/k=15:=by omega
  case' lsT p l=>cases p <;> simp only[Bool.false_eq_true,if_false,if_true]
  case' lsT.false=>have hp:Wt .es l:=hp
  case' lsT.true=>have hp:Wt .pms l:=hp
  case' ls p=>cases p
  case' asg m ks=>obtain⟨hp,hp2⟩:NG m/\(m.kind=7/\ks=.nil\/m.kind=8/\∃x y,Wt .e x/\Wt .e y/\ks=x.app y):=hp
  case' pl=>
   refine Wp.bind (ih _ _ _ hs trivial λf s1 h1 h2=>?_)
   have h1:Wt .e f:=h1
   refine Wp.bind (Wz.look h2 λz hz hz2=>?_)
   cases f
  case lb=>
   refine Wp.bind (Wz.name hs λy s1 g c hs1=>?_)
   refine Wp.bind (Wz.want hs1 λ_ s2 _ _ hs2=>?_)
   refine Wp.bind (Wz.look hs2 λz hz _=>?_)
   refine Wp.ite (λ_=>?_) (λ_=>?_)
   ·refine Wp.bind (ih _ _ _ hs2 trivial λf s3 h3 hs3=>Wp.pure ⟨?_,hs3⟩)
    obtain⟨n,ks,rfl⟩:=sV h3
    exact Wt.lfor h3 rfl (Fb g c (by decide) (by decide) (by decide))
   ·refine Wp.bind (ih _ _ _ hs2 trivial λf s3 h3 hs3=>Wp.pure ⟨?_,hs3⟩)
    obtain⟨h,n,ks,rfl,hk⟩:=h3
    cases h with
    | whil _ hn hc hb=>exact Wt.stw (Wt.whil hk (ku hn hk g c) hc hb)
  all_goals (repeat' (first|(with_reducible refine Wz.want (by assumption) ?_;intro _ _ _ _ _)|(with_reducible refine Wz.name (by assumption) ?_;intro _ _ _ _ _)|(with_reducible refine Wp.bind ?_)|(with_reducible refine Wz.look (by assumption) ?_;intro _ _ _)|(with_reducible refine Wz.take (by assumption) (by assumption) ?_;intro _ _)|(with_reducible refine Wp.st ?_)|(with_reducible exact Wp.fail)|(with_reducible refine Wp.pure ?_)|(with_reducible refine Wp.ite ?_ ?_ <;> intro _)|(refine ih _ _ _ (by assumption) ?_ ?_;rotate_left;intro _ _ _ _)))
  all_goals first
   | exact trivial
   | (show 1<=_;omega)
   | (show Wt .e _;first|assumption|exact Wt.two (by simp[Ap,BD]) (by (first|(exact FK (by kernel_rfl) (by kernel_rfl))|exact GN (by assumption) (by assumption)|exact GI (by assumption) (by assumption)|exact GD (by assumption) (by assumption)|exact Fb (by assumption) (by assumption) (by decide) (by decide) (by decide)|exact Ew (by assumption) (by assumption) (by decide) (by decide) (by decide)|exact Fp (by assumption) (by assumption)|exact GA (by assumption) (by assumption) (by assumption)|exact Fj (by assumption) (by assumption))) (by assumption) (by assumption))
   | (show 1<=_/\Wt .e _;first|exact⟨by assumption,by assumption⟩|exact⟨by assumption,Wt.two (by simp[Ap,BD]) (by (first|(exact FK (by kernel_rfl) (by kernel_rfl))|exact GN (by assumption) (by assumption)|exact GI (by assumption) (by assumption)|exact GD (by assumption) (by assumption)|exact Fb (by assumption) (by assumption) (by decide) (by decide) (by decide)|exact Ew (by assumption) (by assumption) (by decide) (by decide) (by decide)|exact Fp (by assumption) (by assumption)|exact GA (by assumption) (by assumption) (by assumption)|exact Fj (by assumption) (by assumption))) (by assumption) (by assumption)⟩)
   | (show _=(13:Int)\/_;decide)
   | exact Wt.enil
   | exact Wt.pnil
   | exact Wt.snil
   | (exact Wt.esnoc (by assumption) (by assumption))
   | (exact Wt.psnoc (by assumption) (by assumption))
   | (exact Wt.ssnoc (by assumption) (by assumption))
   | (exact Wt.usnoc (by assumption) (sS (by assumption)))
   | (split <;> exact trivial)
   | (exact rR (by assumption) (by assumption))
   | (exact vD (by assumption) (by assumption))
   | (refine⟨?_,by assumption⟩;first|assumption|exact Wt.leaf (by first|rfl|assumption|(simp[Ap,BD];done)) (by first|assumption|exact Gt|(first|(exact FK (by kernel_rfl) (by kernel_rfl))|exact GN (by assumption) (by assumption)|exact GI (by assumption) (by assumption)|exact GD (by assumption) (by assumption)|exact Fb (by assumption) (by assumption) (by decide) (by decide) (by decide)|exact Ew (by assumption) (by assumption) (by decide) (by decide) (by decide)|exact Fp (by assumption) (by assumption)|exact GA (by assumption) (by assumption) (by assumption)|exact Fj (by assumption) (by assumption)))|exact Wt.two (by first|rfl|assumption|(simp[Ap,BD];done)) (by first|assumption|exact Gt|(first|(exact FK (by kernel_rfl) (by kernel_rfl))|exact GN (by assumption) (by assumption)|exact GI (by assumption) (by assumption)|exact GD (by assumption) (by assumption)|exact Fb (by assumption) (by assumption) (by decide) (by decide) (by decide)|exact Ew (by assumption) (by assumption) (by decide) (by decide) (by decide)|exact Fp (by assumption) (by assumption)|exact GA (by assumption) (by assumption) (by assumption)|exact Fj (by assumption) (by assumption))) (by assumption) (by assumption)|exact Wt.one (by first|rfl|assumption|(simp[Ap,BD];done)) (by first|assumption|exact Gt|(first|(exact FK (by kernel_rfl) (by kernel_rfl))|exact GN (by assumption) (by assumption)|exact GI (by assumption) (by assumption)|exact GD (by assumption) (by assumption)|exact Fb (by assumption) (by assumption) (by decide) (by decide) (by decide)|exact Ew (by assumption) (by assumption) (by decide) (by decide) (by decide)|exact Fp (by assumption) (by assumption)|exact GA (by assumption) (by assumption) (by assumption)|exact Fj (by assumption) (by assumption))) (by assumption)|exact Wt.call (by first|rfl|assumption|(simp[Ap,BD];done)) (by first|assumption|exact Gt|(first|(exact FK (by kernel_rfl) (by kernel_rfl))|exact GN (by assumption) (by assumption)|exact GI (by assumption) (by assumption)|exact GD (by assumption) (by assumption)|exact Fb (by assumption) (by assumption) (by decide) (by decide) (by decide)|exact Ew (by assumption) (by assumption) (by decide) (by decide) (by decide)|exact Fp (by assumption) (by assumption)|exact GA (by assumption) (by assumption) (by assumption)|exact Fj (by assumption) (by assumption))) (by assumption)|exact Wt.block (by first|rfl|assumption|(simp[Ap,BD];done)) (by first|assumption|exact Gt|(first|(exact FK (by kernel_rfl) (by kernel_rfl))|exact GN (by assumption) (by assumption)|exact GI (by assumption) (by assumption)|exact GD (by assumption) (by assumption)|exact Fb (by assumption) (by assumption) (by decide) (by decide) (by decide)|exact Ew (by assumption) (by assumption) (by decide) (by decide) (by decide)|exact Fp (by assumption) (by assumption)|exact GA (by assumption) (by assumption) (by assumption)|exact Fj (by assumption) (by assumption))) (by assumption)|exact Wt.s1 (by first|rfl|assumption|(simp[Ap,BD];done)) (by first|assumption|exact Gt|(first|(exact FK (by kernel_rfl) (by kernel_rfl))|exact GN (by assumption) (by assumption)|exact GI (by assumption) (by assumption)|exact GD (by assumption) (by assumption)|exact Fb (by assumption) (by assumption) (by decide) (by decide) (by decide)|exact Ew (by assumption) (by assumption) (by decide) (by decide) (by decide)|exact Fp (by assumption) (by assumption)|exact GA (by assumption) (by assumption) (by assumption)|exact Fj (by assumption) (by assumption))) (by assumption)|exact Wt.s0 (by first|rfl|assumption|(simp[Ap,BD];done)) (by first|assumption|exact Gt|(first|(exact FK (by kernel_rfl) (by kernel_rfl))|exact GN (by assumption) (by assumption)|exact GI (by assumption) (by assumption)|exact GD (by assumption) (by assumption)|exact Fb (by assumption) (by assumption) (by decide) (by decide) (by decide)|exact Ew (by assumption) (by assumption) (by decide) (by decide) (by decide)|exact Fp (by assumption) (by assumption)|exact GA (by assumption) (by assumption) (by assumption)|exact Fj (by assumption) (by assumption)))|exact Wt.s0 (by assumption) (hnm _ (by assumption) (by assumption))|exact Wt.if2 (by first|rfl|assumption|(simp[Ap,BD];done)) (by first|assumption|exact Gt|(first|(exact FK (by kernel_rfl) (by kernel_rfl))|exact GN (by assumption) (by assumption)|exact GI (by assumption) (by assumption)|exact GD (by assumption) (by assumption)|exact Fb (by assumption) (by assumption) (by decide) (by decide) (by decide)|exact Ew (by assumption) (by assumption) (by decide) (by decide) (by decide)|exact Fp (by assumption) (by assumption)|exact GA (by assumption) (by assumption) (by assumption)|exact Fj (by assumption) (by assumption))) (by assumption) (by assumption)|exact Wt.if3 (by first|rfl|assumption|(simp[Ap,BD];done)) (by first|assumption|exact Gt|(first|(exact FK (by kernel_rfl) (by kernel_rfl))|exact GN (by assumption) (by assumption)|exact GI (by assumption) (by assumption)|exact GD (by assumption) (by assumption)|exact Fb (by assumption) (by assumption) (by decide) (by decide) (by decide)|exact Ew (by assumption) (by assumption) (by decide) (by decide) (by decide)|exact Fp (by assumption) (by assumption)|exact GA (by assumption) (by assumption) (by assumption)|exact Fj (by assumption) (by assumption))) (by assumption) (by assumption) (AAc (by assumption))|exact⟨Wt.whil (by first|rfl|assumption|(simp[Ap,BD];done)) (by first|assumption|exact Gt|(first|(exact FK (by kernel_rfl) (by kernel_rfl))|exact GN (by assumption) (by assumption)|exact GI (by assumption) (by assumption)|exact GD (by assumption) (by assumption)|exact Fb (by assumption) (by assumption) (by decide) (by decide) (by decide)|exact Ew (by assumption) (by assumption) (by decide) (by decide) (by decide)|exact Fp (by assumption) (by assumption)|exact GA (by assumption) (by assumption) (by assumption)|exact Fj (by assumption) (by assumption))) (by assumption) (by assumption),_,_,rfl,rfl⟩|exact Wt.fore (by first|rfl|assumption|(simp[Ap,BD];done)) (by first|assumption|exact Gt|(first|(exact FK (by kernel_rfl) (by kernel_rfl))|exact GN (by assumption) (by assumption)|exact GI (by assumption) (by assumption)|exact GD (by assumption) (by assumption)|exact Fb (by assumption) (by assumption) (by decide) (by decide) (by decide)|exact Ew (by assumption) (by assumption) (by decide) (by decide) (by decide)|exact Fp (by assumption) (by assumption)|exact GA (by assumption) (by assumption) (by assumption)|exact Fj (by assumption) (by assumption))) (by assumption) (by assumption) (by assumption)|exact Wt.param (by first|rfl|assumption|(simp[Ap,BD];done)) (by first|assumption|exact Gt|(first|(exact FK (by kernel_rfl) (by kernel_rfl))|exact GN (by assumption) (by assumption)|exact GI (by assumption) (by assumption)|exact GD (by assumption) (by assumption)|exact Fb (by assumption) (by assumption) (by decide) (by decide) (by decide)|exact Ew (by assumption) (by assumption) (by decide) (by decide) (by decide)|exact Fp (by assumption) (by assumption)|exact GA (by assumption) (by assumption) (by assumption)|exact Fj (by assumption) (by assumption)))|exact Wt.glob (by first|rfl|assumption|(simp[Ap,BD];done)) (by first|assumption|exact Gt|(first|(exact FK (by kernel_rfl) (by kernel_rfl))|exact GN (by assumption) (by assumption)|exact GI (by assumption) (by assumption)|exact GD (by assumption) (by assumption)|exact Fb (by assumption) (by assumption) (by decide) (by decide) (by decide)|exact Ew (by assumption) (by assumption) (by decide) (by decide) (by decide)|exact Fp (by assumption) (by assumption)|exact GA (by assumption) (by assumption) (by assumption)|exact Fj (by assumption) (by assumption)))|exact Wt.func (by first|rfl|assumption|(simp[Ap,BD];done)) (by first|assumption|exact Gt|(first|(exact FK (by kernel_rfl) (by kernel_rfl))|exact GN (by assumption) (by assumption)|exact GI (by assumption) (by assumption)|exact GD (by assumption) (by assumption)|exact Fb (by assumption) (by assumption) (by decide) (by decide) (by decide)|exact Ew (by assumption) (by assumption) (by decide) (by decide) (by decide)|exact Fp (by assumption) (by assumption)|exact GA (by assumption) (by assumption) (by assumption)|exact Fj (by assumption) (by assumption))) (by assumption) (by assumption)|exact Wt.sti (by assumption)|exact AA0 (by assumption)|exact Wt.stf (by assumption)|exact⟨_,rfl,hp⟩|exact ABg hp hp2 (by assumption)|(obtain⟨_,_,e⟩:=gM (by assumption);cases e))
def FM:Fo->Int->Nat->Nat->Prop
 | .nil,_,_,_=>True
 | .cons n ks r,k,c,m=>Gv (n,ks.len)=true/\MH k (c:Nat) (m:Nat) n.kind=true/\FM ks n.kind ks.len 0/\FM r k c (m+1)
theorem mO(L:List (Nd × Nat))(r n:Nat){Q Q':List (Nat × Nat)}(h:Co L Q=Co L Q'):isGo L r n Q=isGo L r n Q':=by
 cases r with
 | zero=>unfold isGo;rw[h]
 | succ r=>unfold isGo;rw[h]
theorem Ug(L:List (Nd × Nat)):∀ (f:Fo) (A R:List (Nd × Nat)) (a m:Nat) (x:Nd × Nat) (Q:List (Nat × Nat)) (r:Nat),L=A++(AJ f++R)->L[a]? = some x->m+f.len=x.2->FM f x.1.kind x.2 m->(AJ f).length<=r->isGo L r A.length ((a,m)::Q)=isGo L (r-(AJ f).length) (A.length+(AJ f).length) ((a,m+f.len)::Q)
 | .nil,A,R,a,m,x,Q,r,hL,ha,hm,hs,hr=>by simp[AJ,Fo.len]
 | .cons n ks t,A,R,a,m,x,Q,r,hL,ha,hm,⟨h1,h2,h3,h4⟩,hr=>by
  have e:AJ (Fo.cons n ks t)=(n,ks.len)::(AJ ks++AJ t):=rfl
  have el:(AJ (Fo.cons n ks t)).length=1+(AJ ks).length+(AJ t).length:=by rw[e];simp;omega
  have ln:(Fo.cons n ks t).len=t.len+1:=rfl
  rw[ln] at hm ⊢
  obtain⟨r',rfl⟩:∃r',r=r'+1:=⟨r-1,by omega⟩
  have hn:L[A.length]? = some (n,ks.len):=by rw[hL,e,List.getElem?_append_right (Nat.le_refl _)];simp
  have hka:Ki L a=x.2:=by unfold Ki;rw[ha]
  have hkn:Ki L A.length=ks.len:=by unfold Ki;rw[hn]
  have hrise:Co L ((a,m)::Q)=(a,m)::Q:=by
   unfold Co
   rw[if_pos (by rw[hka];show m<x.2;omega)]
  have h5:fitsAt L A.length=true:=by unfold fitsAt;rw[hn];exact h1
  have h6:QV L a m A.length=true:=by unfold QV;rw[ha,hn];exact h2
  have hstep:isGo L (r'+1) A.length ((a,m)::Q)=isGo L r' (A.length+1) ((A.length,0)::(a,m+1)::Q):=by
   conv=>lhs;unfold isGo
   rw[hrise]
   simp only[h5,h6,Bool.true_and]
  have i1:=Ug L ks (A++[(n,ks.len)]) (AJ t++R) A.length 0 (n,ks.len) ((a,m+1)::Q) r' (by rw[hL,e];simp) hn (by simp) h3 (by omega)
  simp only[z1z,z0z,z2z,Nat.zero_add] at i1
  have hup:Co L ((A.length,ks.len)::(a,m+1)::Q)=Co L ((a,m+1)::Q):=by
   conv=>lhs;unfold Co
   rw[if_neg (by rw[hkn];exact Nat.lt_irrefl _)]
  have i2:=Ug L t (A++[(n,ks.len)]++AJ ks) R a (m+1) x Q (r'-(AJ ks).length) (by rw[hL,e];simp) ha (by omega) h4 (by omega)
  simp only[z1z,z0z,z2z,Nat.zero_add] at i2
  rw[hstep,i1,mO L _ _ hup,i2,el]
  congr 1
  ·omega
  ·omega
  ·congr 2
   omega
theorem oF(n:Nd)(ks:Fo)(hk:n.kind=1)(hf:Gv (n,ks.len)=true)(hs:FM ks 1 ks.len 0):Ie (AJ (Fo.one n ks))=true:=by
 have e:AJ (Fo.one n ks)=(n,ks.len)::AJ ks:=by simp[Fo.one,AJ]
 rw[e]
 have h:=Ug ((n,ks.len)::AJ ks) ks [(n,ks.len)] [] 0 0 (n,ks.len) [] (AJ ks).length (by simp) rfl (by simp) (by rw[hk];exact hs) (Nat.le_refl _)
 simp only[z0z,z2z,Nat.zero_add,Nat.sub_self] at h
 unfold Ie
 simp only[hf,Bool.and_true]
 rw[h]
 have:Co ((n,ks.len)::AJ ks) [(0,ks.len)]=[]:=by
  unfold Co
  rw[if_neg (by show ¬ks.len<Ki ((n,ks.len)::AJ ks) 0;exact Nat.lt_irrefl _)]
  rfl
 unfold isGo
 rw[this]
 simp[hk]
def Ef(so:Int):Fo->Prop
 | .nil=>True
 | .cons n ks r=>Gv (n,ks.len)=true/\FM ks n.kind ks.len 0/\(CZ n.kind).sort=so/\Ef so r
theorem J9{so:Int}:∀ {f g:Fo},Ef so f->Ef so g->Ef so (f.app g)
 | .nil,g,_,h=>h
 | .cons n ks r,g,⟨h1,h2,h3,h4⟩,h=>⟨h1,h2,h3,J9 h4 h⟩
theorem Db{so k:Int}{c:Nat}:∀ {f:Fo} {m:Nat},Ef so f->(∀j:Nat,m<=j->j<m+f.len->MG k c j=so)->FM f k c m
 | .nil,m,_,_=>trivial
 | .cons n ks r,m,⟨h1,h2,h3,h4⟩,hj=>by
  refine⟨h1,?_,h2,Db h4 λj a b=>hj j (by omega) (by simp only[Fo.len];omega)⟩
  unfold MH
  have:=hj m (Nat.le_refl _) (by simp only[Fo.len];omega)
  exact decide_eq_true (.inr (h3.trans this.symm))
theorem JW{k:Int}{c:Nat}:∀ {f g:Fo} {m:Nat},FM f k c m->FM g k c (m+f.len)->FM (f.app g) k c m
 | .nil,g,m,_,h=>by simpa [Fo.app,Fo.len] using h
 | .cons n ks r,g,m,⟨h1,h2,h3,h4⟩,h=>by
  refine⟨h1,h2,h3,JW h4 ?_⟩
  have e:m+1+r.len=m+(Fo.cons n ks r).len:=by simp only[Fo.len];omega
  rw[e]
  exact h
theorem Qr{n:Nd}{c:Nat}(h:NG n)(h1:(CZ n.kind).least<=(c:Nat))(h2:((c:Nat):Int)<=(CZ n.kind).most):Gv (n,c)=true:=by
 unfold Gv
 simp only[Bool.and_eq_true,decide_eq_true_eq]
 exact⟨⟨⟨h1,h2⟩,h.1⟩,h.2⟩
theorem MF(f:Fo):f.len<=(AJ f).length:=by
 induction f with
 | nil=>simp[Fo.len]
 | cons n ks r _ ih=>simp only[Fo.len,AJ,z0z,z1z];omega
def ShW:So->Fo->Prop
 | .e,f=>Ef 7 f/\f.len=1
 | .es,f=>Ef 7 f
 | .b,f=>Ef 4 f/\f.len=1
 | .bi,f=>(Ef 4 f\/∃n ks,f=.cons n ks .nil/\n.kind=9/\Ef 5 f)/\f.len=1
 | .i,f=>Ef 5 f/\∃n ks,f=.cons n ks .nil/\n.kind=9
 | .f,f=>Ef 5 f/\∃n ks,f=.cons n ks .nil/\n.kind=11/\NG n/\ks.len=3/\FM ks 11 3 0/\FM ks 11 4 1
 | .pm,f=>Ef 3 f
 | .pms,f=>Ef 3 f
 | .u,f=>Ef 2 f
 | .us,f=>Ef 2 f
 | _,f=>Ef 5 f
theorem Fh{so:Int}{n:Nd}{ks:Fo}(hn:NG n)(h1:(CZ n.kind).least<=(ks.len:Nat))(h2:((ks.len:Nat):Int)<=(CZ n.kind).most)(h3:FM ks n.kind ks.len 0)(h4:(CZ n.kind).sort=so):Ef so (.cons n ks .nil):=⟨Qr hn h1 h2,h3,h4,trivial⟩
theorem Cq(f g:Fo):(f.app g).len=f.len+g.len:=Fo.Cq f g
theorem gF{so:So}{f:Fo}(h:Wt so f):(AJ f).length<=1000000->ShW so f:=by
 induction h with
 | leaf hk hn=>
  intro _
  refine⟨Fh hn ?_ ?_ trivial ?_,rfl⟩ <;> rcases hk with h|h|h|h|h|h|h <;> rw[h] <;> decide
 | @two n x y hk hn _ _ ix iy=>
  intro hN
  (simp only[AJ,Ei,z0z,z1z,z2z] at hN)
  obtain⟨ax,lx⟩:=ix (by omega)
  obtain⟨ay,ly⟩:=iy (by omega)
  have hl:(x.app y).len=2:=by rw[Cq,lx,ly]
  refine⟨Fh hn ?_ ?_ (Db (J9 ax ay) ?_) ?_,rfl⟩
  ·rw[hl];rcases hk with h|h|h|h <;> rw[h] <;> decide
  ·rw[hl];rcases hk with h|h|h|h <;> rw[h] <;> decide
  ·intro j _ _
   rcases hk with h|h|h|h <;> rw[h] <;> rfl
  ·rcases hk with h|h|h|h <;> rw[h] <;> decide
 | @one n x hk hn _ ix=>
  intro hN
  (simp only[AJ,Ei,z0z,z1z,z2z] at hN)
  obtain⟨ax,lx⟩:=ix (by omega)
  refine⟨Fh hn ?_ ?_ (Db ax ?_) ?_,rfl⟩
  ·rw[lx];rcases hk with h|h <;> rw[h] <;> decide
  ·rw[lx];rcases hk with h|h <;> rw[h] <;> decide
  ·intro j _ _
   rcases hk with h|h <;> rw[h] <;> rfl
  ·rcases hk with h|h <;> rw[h] <;> decide
 | @call n l hk hn _ il=>
  intro hN
  (simp only[AJ,Ei,z0z,z1z,z2z] at hN)
  have al:=il (by omega)
  have ll:=MF l
  refine⟨Fh hn ?_ ?_ (Db al ?_) ?_,rfl⟩
  ·rw[hk];show (0:Int)<=_;omega
  ·rw[hk];show _<=(9223372036854775807:Int);omega
  ·intro j _ _
   rw[hk];rfl
  ·rw[hk];decide
 | enil=>exact λ_=>trivial
 | esnoc _ _ il ix=>intro hN;(simp only[AJ,Ei,z0z,z1z,z2z] at hN);exact J9 (il (by omega)) (ix (by omega)).1
 | @block n l hk hn _ il=>
  intro hN
  (simp only[AJ,Ei,z0z,z1z,z2z] at hN)
  have al:=il (by omega)
  have ll:=MF l
  refine⟨Fh hn ?_ ?_ (Db al ?_) ?_,rfl⟩
  ·rw[hk];show (0:Int)<=_;omega
  ·rw[hk];show _<=(9223372036854775807:Int);omega
  ·intro j _ _
   rw[hk];rfl
  ·rw[hk];decide
 | snil=>exact λ_=>trivial
 | ssnoc _ _ il ix=>intro hN;(simp only[AJ,Ei,z0z,z1z,z2z] at hN);exact J9 (il (by omega)) (ix (by omega))
 | @s1 n x hk hn _ ix=>
  intro hN
  (simp only[AJ,Ei,z0z,z1z,z2z] at hN)
  obtain⟨ax,lx⟩:=ix (by omega)
  refine Fh hn ?_ ?_ (Db ax ?_) ?_
  ·rw[lx];rcases hk with h|h|h|h|h <;> rw[h] <;> decide
  ·rw[lx];rcases hk with h|h|h|h|h <;> rw[h] <;> decide
  ·intro j _ _
   rcases hk with h|h|h|h|h <;> rw[h] <;> rfl
  ·rcases hk with h|h|h|h|h <;> rw[h] <;> decide
 | s0 hk hn=>
  intro _
  refine Fh hn ?_ ?_ trivial ?_ <;> rcases hk with h|h|h <;> rw[h] <;> decide
 | @store n x y v hk hn _ _ _ ix iy iv=>
  intro hN
  (simp only[AJ,Ei,z0z,z1z,z2z] at hN)
  obtain⟨ax,lx⟩:=ix (by omega)
  obtain⟨ay,ly⟩:=iy (by omega)
  obtain⟨av,lv⟩:=iv (by omega)
  have hl:((x.app y).app v).len=3:=by rw[Cq,Cq,lx,ly,lv]
  refine Fh hn ?_ ?_ (Db (J9 (J9 ax ay) av) ?_) ?_
  ·rw[hl,hk];decide
  ·rw[hl,hk];decide
  ·intro j _ _
   rw[hk];rfl
  ·rw[hk];decide
 | @if2 n c b hk hn _ _ ic ib=>
  intro hN
  (simp only[AJ,Ei,z0z,z1z,z2z] at hN)
  obtain⟨ac,lc⟩:=ic (by omega)
  obtain⟨ab,lb⟩:=ib (by omega)
  have hl:(c.app b).len=2:=by rw[Cq,lc,lb]
  refine⟨Fh hn ?_ ?_ (JW (Db ac ?_) (Db ab ?_)) ?_,_,_,rfl,hk⟩
  ·rw[hl,hk];decide
  ·rw[hl,hk];decide
  ·intro j h0 h1
   have:j=0:=by omega
   rw[hk,this];rfl
  ·intro j h0 h1
   have:j=1:=by omega
   rw[hk,this];rfl
  ·rw[hk];decide
 | @if3 n c b d hk hn _ _ _ ic ib id'=>
  intro hN
  (simp only[AJ,Ei,z0z,z1z,z2z] at hN)
  obtain⟨ac,lc⟩:=ic (by omega)
  obtain⟨ab,lb⟩:=ib (by omega)
  obtain⟨ad,ld⟩:=id' (by omega)
  have hl:((c.app b).app d).len=3:=by rw[Cq,Cq,lc,lb,ld]
  have hd:FM d n.kind ((c.app b).app d).len (0+(c.app b).len):=by
   have e2:0+(c.app b).len=2:=by rw[Cq,lc,lb]
   rw[hk,hl,e2]
   rcases ad with ad|⟨m,ks,rfl,hm,a1,a2,_,_⟩
   ·exact Db ad λj h0 h1=>by
     have:j=2:=by omega
     rw[this];rfl
   ·exact⟨a1,decide_eq_true (.inl ⟨rfl,rfl,hm⟩),a2,trivial⟩
  refine⟨Fh hn ?_ ?_ (JW (JW (Db ac ?_) (Db ab ?_)) hd) ?_,_,_,rfl,hk⟩
  ·rw[hl,hk];decide
  ·rw[hl,hk];decide
  ·intro j h0 h1
   have:j=0:=by omega
   rw[hk,this];rfl
  ·intro j h0 h1
   have:j=1:=by omega
   rw[hk,this];rfl
  ·rw[hk];decide
 | bib _ ih=>intro hN;exact⟨.inl (ih hN).1,(ih hN).2⟩
 | bii _ ih=>
  intro hN
  obtain⟨a,n,ks,rfl,hk⟩:=ih hN
  exact⟨.inr ⟨n,ks,rfl,hk,a⟩,rfl⟩
 | sti _ ih=>exact λhN=>(ih hN).1
 | @whil n c b hk hn _ _ ic ib=>
  intro hN
  (simp only[AJ,Ei,z0z,z1z,z2z] at hN)
  obtain⟨ac,lc⟩:=ic (by omega)
  obtain⟨ab,lb⟩:=ib (by omega)
  have hl:(c.app b).len=2:=by rw[Cq,lc,lb]
  refine Fh hn ?_ ?_ (JW (Db ac ?_) (Db ab ?_)) ?_
  ·rw[hl,hk];decide
  ·rw[hl,hk];decide
  ·intro j h0 h1
   have:j=0:=by omega
   rw[hk,hl,this];rfl
  ·intro j h0 h1
   have:j=1:=by omega
   rw[hk,hl,this];rfl
  ·rw[hk];decide
 | stw _ ih=>exact ih
 | @fore n f t b hk hn _ _ _ if' it ib=>
  intro hN
  (simp only[AJ,Ei,z0z,z1z,z2z] at hN)
  obtain⟨af,lf⟩:=if' (by omega)
  obtain⟨at',lt⟩:=it (by omega)
  obtain⟨ab,lb⟩:=ib (by omega)
  have hl:((f.app t).app b).len=3:=by rw[Cq,Cq,lf,lt,lb]
  have h3:FM ((f.app t).app b) 11 3 0:=by
   refine JW (JW (Db af ?_) (Db at' ?_)) (Db ab ?_)
   ·intro j h0 h1
    have:j=0:=by omega
    rw[this];rfl
   ·intro j h0 h1
    have:j=1:=by omega
    rw[this];rfl
   ·intro j h0 h1
    rw[Cq] at h0 h1
    have:j=2:=by omega
    rw[this];rfl
  have h4:FM ((f.app t).app b) 11 4 1:=by
   refine JW (JW (Db af ?_) (Db at' ?_)) (Db ab ?_)
   ·intro j h0 h1
    have:j=1:=by omega
    rw[this];rfl
   ·intro j h0 h1
    have:j=2:=by omega
    rw[this];rfl
   ·intro j h0 h1
    rw[Cq] at h0 h1
    have:j=3:=by omega
    rw[this];rfl
  refine⟨Fh hn ?_ ?_ ?_ ?_,_,_,rfl,hk,hn,hl,h3,h4⟩
  ·rw[hl,hk];decide
  ·rw[hl,hk];decide
  ·rw[hl,hk];exact h3
  ·rw[hk];decide
 | stf _ ih=>exact λhN=>(ih hN).1
 | @lfor n lb ks _ hlk hln ih=>
  intro hN
  (simp only[AJ,Ei,z0z,z1z,z2z] at hN)
  obtain⟨_,n',ks',e,hk,hn,hl,h3,h4⟩:=ih (by simp only[AJ,z0z,z1z,z2z];omega)
  injection e with e1 e2
  subst e1 e2
  have hl2:(Fo.cons lb .nil ks).len=4:=by simp only[Fo.len];omega
  refine Fh hn ?_ ?_ ?_ ?_
  ·rw[hl2,hk];decide
  ·rw[hl2,hk];decide
  ·rw[hl2,hk]
   refine⟨Qr hln (by rw[hlk];decide) (by rw[hlk];decide),?_,trivial,h4⟩
   rw[hlk];decide
  ·rw[hk];decide
 | param hk hn=>intro _;refine Fh hn ?_ ?_ trivial ?_ <;> rw[hk] <;> decide
 | pnil=>exact λ_=>trivial
 | psnoc _ _ il ix=>intro hN;(simp only[AJ,Ei,z0z,z1z,z2z] at hN);exact J9 (il (by omega)) (ix (by omega))
 | glob hk hn=>intro _;refine Fh hn ?_ ?_ trivial ?_ <;> rw[hk] <;> decide
 | @func n l b hk hn _ _ il ib=>
  intro hN
  (simp only[AJ,Ei,z0z,z1z,z2z] at hN)
  have al:=il (by omega)
  obtain⟨ab,lb⟩:=ib (by omega)
  have ll:=MF l
  have hl:(l.app b).len=l.len+1:=by rw[Cq,lb]
  refine Fh hn ?_ ?_ (JW (Db al ?_) (Db ab ?_)) ?_
  ·rw[hk,hl];show (1:Int)<=_;omega
  ·rw[hk,hl];show _<=(9223372036854775807:Int);omega
  ·intro j h0 h1
   rw[hk,hl]
   show (if (j:Int)=((l.len+1:Nat):Int)-1 then (4:Int) else 3)=3
   rw[if_neg (by omega)]
  ·intro j h0 h1
   rw[hk,hl]
   show (if (j:Int)=((l.len+1:Nat):Int)-1 then (4:Int) else 3)=4
   rw[if_pos (by omega)]
  ·rw[hk];decide
 | unil=>exact λ_=>trivial
 | usnoc _ _ il ix=>intro hN;(simp only[AJ,Ei,z0z,z1z,z2z] at hN);exact J9 (il (by omega)) (ix (by omega))
theorem AAu{fo:Fo}(h:Wpg fo)(hN:(AJ fo).length<=1000000):Ie (AJ fo)=true:=by
 obtain⟨l,rfl,hw⟩:=h
 have hN':=hN
 simp only[Fo.one,AJ,z0z,z1z,z2z] at hN'
 have a:=gF hw (by omega)
 have ll:=MF l
 refine oF _ l rfl (Qr ⟨by kernel_rfl,by kernel_rfl⟩ ?_ ?_) (Db a λj _ _=>rfl)
 ·show (0:Int)<=_;omega
 ·show _<=(9223372036854775807:Int);omega
end Go.Proofs.YtjplieobnknnpaaGreatDoor.W.Tr
