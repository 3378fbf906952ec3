import Derived.Test.YteffljnjmcjdfaaGreatDoorJM
set_option maxRecDepth 1000000
set_option maxHeartbeats 8000000
namespace Go.Proofs.YteffljnjmcjdfaaGreatDoor.W.Tr
set_option linter.unusedVariables false
set_option linter.unusedSimpArgs false
def Gd(s:Cs):Prop:=∃xs z,s.r=xs++[z]/\(z.c=0->z.t.kind=7)
def Wq{α:Type}(x:Pm α)(s:Cs)(Q:α->Cs->Prop):Prop:=∀r,x s=some r->(∀f,r=.error f->f.1≠0)/\∀a s',r=.ok (a,s')->Q a s'
section
variable {α β:Type} {s:Cs}
theorem Wq.bind{x:Pm α}{f:α->Pm β}{Q:β->Cs->Prop}(h:Wq x s (λa s'=>Wq (f a) s' Q)):Wq (x.bind f) s Q:=by
 intro r e
 rcases bind_inv e with⟨g,h1,rfl⟩|⟨a,s',h1,h2⟩
 ·exact⟨λf' hf=>(h _ h1).1 _ (by cases hf;rfl),λa s' hh=>by cases hh⟩
 ·exact(h _ h1).2 a s' rfl r h2
theorem Wq.pure{a:α}{Q:α->Cs->Prop}(h:Q a s):Wq (Pm.pure a) s Q:=by
 intro r e
 have:=pure_inv e
 subst this
 exact⟨λf hf=>by (cases hf),λb s' hh=>by (cases hh;exact h)⟩
theorem Wq.fail{e:Flt}{Q:α->Cs->Prop}(h:e.1≠0):Wq (failM e) s Q:=by
 intro r e'
 have:r=.error e:=(Option.some.inj e').symm
 subst this
 exact⟨λf hf=>by (cases hf;exact h),λb s' hh=>by cases hh⟩
theorem look_gd(hg:Gd s):(∃e,look s=.error e/\e.1≠0)\/∃y,look s=.ok y:=by
 obtain⟨xs,z,hr,hz⟩:=hg
 unfold look
 cases hs:s.r with
 | nil=>rw[hs] at hr;simp at hr
 | cons y ys=>
  simp only
  by_cases hc:y.c=0
  ·rw[if_pos hc]
   split
   ·exact .inl ⟨_,rfl,show (71:Int)≠0 by decide⟩
   ·exact .inr ⟨_,rfl⟩
  ·rw[if_neg hc]
   exact .inl ⟨_,rfl,hc⟩
theorem Wq.look{Q:Yd->Cs->Prop}(hg:Gd s)(h:∀y,Tr.look s=.ok y->Q y s):Wq lookM s Q:=by
 intro r e
 unfold lookM at e
 rcases look_gd hg with⟨f,h1,h2⟩|⟨y,h1⟩
 ·rw[h1] at e
  have:r=.error f:=(Option.some.inj e).symm
  subst this
  exact⟨λf' hf=>by (cases hf;exact h2),λb s' hh=>by cases hh⟩
 ·rw[h1] at e
  have:r=.ok (y,s):=(Option.some.inj e).symm
  subst this
  exact⟨λf' hf=>by (cases hf),λb s' hh=>by (cases hh;exact h y h1)⟩
theorem gd_behind(hg:Gd s){y:Yd}(hl:Tr.look s=.ok y)(hk:y.t.kind≠7):Gd (behind y s):=by
 obtain⟨xs,z,hr,hz⟩:=hg
 cases xs with
 | nil=>
  exfalso
  unfold Tr.look at hl
  rw[hr] at hl
  simp only[List.nil_append] at hl
  by_cases hc:z.c=0
  ·rw[if_pos hc] at hl
   split at hl
   ·cases hl
   ·cases hl
    exact hk (hz hc)
  ·rw[if_neg hc] at hl
   cases hl
 | cons x xs=>exact⟨xs,z,by simp[behind,hr],hz⟩
theorem Wq.take{Q:Yd->Cs->Prop}(hg:Gd s)(hk:∀y,Tr.look s=.ok y->y.t.kind≠7)(h:∀y s',Gd s'->Q y s'):Wq takeM s Q:=by
 intro r e
 unfold takeM at e
 rcases look_gd hg with⟨f,h1,h2⟩|⟨y,h1⟩
 ·rw[h1] at e
  have:r=.error f:=(Option.some.inj e).symm
  subst this
  exact⟨λf' hf=>by (cases hf;exact h2),λb s' hh=>by cases hh⟩
 ·rw[h1] at e
  have:r=.ok (y,behind y s):=(Option.some.inj e).symm
  subst this
  exact⟨λf' hf=>by (cases hf),λb s' hh=>by (cases hh;exact h y _ (gd_behind hg h1 (hk y h1)))⟩
theorem Wq.ite{c:Prop}[Decidable c]{x y:Pm α}{Q:α->Cs->Prop}(h:c->Wq x s Q)(g:¬c->Wq y s Q):Wq (if c then x else y) s Q:=by
 by_cases k:c
 ·rw[if_pos k];exact h k
 ·rw[if_neg k];exact g k
theorem fix_kind{t:Tk}{k:ByteArray}(h:fixedT t=k)(hk:k≠⟨#[]⟩):t.kind≠7:=by
 intro e
 unfold fixedT at h
 rw[if_neg (by omega)] at h
 exact hk h.symm
theorem same_look{y:Yd}(h:Tr.look s=.ok y){p:Yd->Prop}(hp:p y):∀z,Tr.look s=.ok z->p z:=by
 intro z hz
 rw[h] at hz
 cases hz
 exact hp
theorem Wq.want{t:ByteArray}{Q:Yd->Cs->Prop}(hg:Gd s)(ht:t≠⟨#[]⟩)(h:∀y s',Gd s'->Q y s'):Wq (wantM t) s Q:=
 Wq.bind (Wq.look hg λy hy=>Wq.ite (λhf=>Wq.take hg (same_look hy (p:=λy=>y.t.kind≠7) (fix_kind hf ht)) h) (λ_=>Wq.fail (show (70:Int)≠0 by decide)))
theorem Wq.name{Q:Yd->Cs->Prop}(hg:Gd s)(h:∀y s',Gd s'->Q y s'):Wq nameM s Q:=
 Wq.bind (Wq.look hg λy hy=>Wq.ite (λhf=>Wq.take hg (same_look hy (p:=λy=>y.t.kind≠7) (by omega)) h) (λ_=>Wq.fail (show (70:Int)≠0 by decide)))
end
def PreQ:Nt->Cs->Prop
 | .bn k,_=>1<=k
 | .bnT k _,_=>1<=k
 | .jm _,s=>∀y,look s=.ok y->y.t.kind≠7
 | _,_=>True
theorem Wq.st{s:Cs}{Q:Cs->Cs->Prop}(h:Q s s):Wq stM s Q:=by
 intro r e
 have:r=.ok (s,s):=(Option.some.inj e).symm
 subst this
 exact⟨λf hf=>by (cases hf),λb s' hh=>by (cases hh;exact h)⟩
theorem comp_kind{t:Tk}(h:comp (fixedT t)=true):t.kind≠7:=by
 intro e
 unfold fixedT at h
 rw[if_neg (by omega)] at h
 revert h
 decide
theorem tight_kind{t:Tk}{k:Nat}(h:tight (fixedT t)=k)(hk:1<=k):t.kind≠7:=by
 intro e
 unfold fixedT at h
 rw[if_neg (by omega)] at h
 have:tight ⟨#[]⟩=0:=by decide
 omega
theorem perr:∀ (n:Nat) (nt:Nt) (s:Cs),Gd s->PreQ nt s->Wq (P n nt) s (λ_ s'=>Gd s')
 | 0,nt,s,hg,hp=>by intro r e;cases e
 | n+1,nt,s,hg,hp=>by
  have ih:∀ (nt:Nt) (s:Cs) (Q:Fo->Cs->Prop),Gd s->PreQ nt s->(∀a s',Gd s'->Q a s')->Wq (P n nt) s Q:=λnt s Q hg hp h r e=>⟨(perr n nt s hg hp r e).1,λa s' hh=>h a s' ((perr n nt s hg hp r e).2 a s' hh)⟩
  cases nt
  all_goals unfold P
  case' pl=>
   refine Wq.bind (ih _ _ _ hg trivial λf s1 h1=>?_)
   refine Wq.bind (Wq.look h1 λz hz=>?_)
   cases f
  case' bn k=>have hp:1<=k:=hp
  case' bnT k l=>have hp:1<=k:=hp
  case' jm k=>
   have hp:∀y,look s=.ok y->y.t.kind≠7:=hp
   refine Wq.bind (Wq.take hg hp λy s1 h1=>?_)
  all_goals (repeat' (first|assumption|(with_reducible refine Wq.want (by assumption) (by decide) ?_;intro _ _ _)|(with_reducible refine Wq.name (by assumption) ?_;intro _ _ _)|(with_reducible refine Wq.bind ?_)|(with_reducible refine Wq.look (by assumption) ?_;intro _ _)|(with_reducible refine Wq.take (by assumption) (same_look (by assumption) (p:=λy=>y.t.kind≠7) (by (first|exact fix_kind (by assumption) (by decide)|exact comp_kind (by assumption)|exact tight_kind (by assumption) (by assumption)|omega|(rename_i hor;rcases hor with h|h <;> exact fix_kind h (by decide))))) ?_;intro _ _ _)|(with_reducible refine Wq.st ?_)|(with_reducible refine Wq.pure ?_)|(with_reducible refine Wq.ite ?_ ?_ <;> intro _)|(refine ih _ _ _ (by assumption) (by (first|exact trivial|(show 1<=_;omega)|(show _<=_;assumption)|(exact same_look (by assumption) (p:=λy=>y.t.kind≠7) (by (first|exact fix_kind (by assumption) (by decide)|exact comp_kind (by assumption)|exact tight_kind (by assumption) (by assumption)|omega|(rename_i hor;rcases hor with h|h <;> exact fix_kind h (by decide)))))|(split <;> exact trivial))) ?_;intro _ _ _)))
end Go.Proofs.YteffljnjmcjdfaaGreatDoor.W.Tr
