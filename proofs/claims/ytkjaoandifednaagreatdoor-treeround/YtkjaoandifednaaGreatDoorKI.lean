import Derived.Test.YtkjaoandifednaaGreatDoorJM
import Derived.Test.YtkjaoandifednaaGreatDoorJS
import Derived.Test.YtkjaoandifednaaGreatDoorJO
import Derived.Test.YtkjaoandifednaaGreatDoorJP
import Derived.Test.YtkjaoandifednaaGreatDoorKA
namespace Go.Proofs.YtkjaoandifednaaGreatDoor.W.Tr
set_option linter.unusedVariables false
set_option linter.unusedSimpArgs false
def Gd (s:Cs):Prop:=∃ xs z,s.r=xs ++ [z]∧(z.c=0→z.t.kind=7)
def Wq {α:Type} (x:Pm α) (s:Cs) (Q:α→Cs→Prop):Prop:=∀ r,x s=some r→(∀ f,r=.error f→f.1 ≠ 0)∧∀ a s',r=.ok (a,s')→Q a s'
section
variable {α β:Type} {s:Cs}
theorem Wq.bind {x:Pm α} {f:α→Pm β} {Q:β→Cs→Prop} (h:Wq x s (fun a s'=>Wq (f a) s' Q)):Wq (x.bind f) s Q:=by
 intro r e
 rcases bind_inv e with ⟨g,h1,rfl⟩ | ⟨a,s',h1,h2⟩
 ·exact ⟨fun f' hf=>(h _ h1).1 _ (by cases hf;rfl),fun a s' hh=>by cases hh⟩
 ·exact (h _ h1).2 a s' rfl r h2
theorem Wq.pure {a:α} {Q:α→Cs→Prop} (h:Q a s):Wq (Pm.pure a) s Q:=by
 intro r e
 have:=pure_inv e
 subst this
 exact ⟨fun f hf=>by (cases hf),fun b s' hh=>by (cases hh;exact h)⟩
theorem Wq.fail {e:Flt} {Q:α→Cs→Prop} (h:e.1 ≠ 0):Wq (failM e) s Q:=by
 intro r e'
 have:r=.error e:=(Option.some.inj e').symm
 subst this
 exact ⟨fun f hf=>by (cases hf;exact h),fun b s' hh=>by cases hh⟩
theorem look_gd (hg:Gd s):(∃ e,look s=.error e∧e.1 ≠ 0)∨∃ y,look s=.ok y:=by
 obtain ⟨xs,z,hr,hz⟩:=hg
 unfold look
 cases hs:s.r with
 | nil=>rw [hs] at hr;simp at hr
 | cons y ys=>
  simp only
  by_cases hc:y.c=0
  ·rw [if_pos hc]
   split
   ·exact .inl ⟨_,rfl,show (71:Int) ≠ 0 by decide⟩
   ·exact .inr ⟨_,rfl⟩
  ·rw [if_neg hc]
   exact .inl ⟨_,rfl,hc⟩
theorem Wq.look {Q:Yd→Cs→Prop} (hg:Gd s) (h:∀ y,Tr.look s=.ok y→Q y s):Wq lookM s Q:=by
 intro r e
 unfold lookM at e
 rcases look_gd hg with ⟨f,h1,h2⟩ | ⟨y,h1⟩
 ·rw [h1] at e
  have:r=.error f:=(Option.some.inj e).symm
  subst this
  exact ⟨fun f' hf=>by (cases hf;exact h2),fun b s' hh=>by cases hh⟩
 ·rw [h1] at e
  have:r=.ok (y,s):=(Option.some.inj e).symm
  subst this
  exact ⟨fun f' hf=>by (cases hf),fun b s' hh=>by (cases hh;exact h y h1)⟩
theorem gd_behind (hg:Gd s) {y:Yd} (hl:Tr.look s=.ok y) (hk:y.t.kind ≠ 7):Gd (behind y s):=by
 obtain ⟨xs,z,hr,hz⟩:=hg
 cases xs with
 | nil=>
  exfalso
  unfold Tr.look at hl
  rw [hr] at hl
  simp only [List.nil_append] at hl
  by_cases hc:z.c=0
  ·rw [if_pos hc] at hl
   split at hl
   ·cases hl
   ·cases hl
    exact hk (hz hc)
  ·rw [if_neg hc] at hl
   cases hl
 | cons x xs=>exact ⟨xs,z,by simp [behind,hr],hz⟩
theorem Wq.take {Q:Yd→Cs→Prop} (hg:Gd s) (hk:∀ y,Tr.look s=.ok y→y.t.kind ≠ 7) (h:∀ y s',Gd s'→Q y s'):Wq takeM s Q:=by
 intro r e
 unfold takeM at e
 rcases look_gd hg with ⟨f,h1,h2⟩ | ⟨y,h1⟩
 ·rw [h1] at e
  have:r=.error f:=(Option.some.inj e).symm
  subst this
  exact ⟨fun f' hf=>by (cases hf;exact h2),fun b s' hh=>by cases hh⟩
 ·rw [h1] at e
  have:r=.ok (y,behind y s):=(Option.some.inj e).symm
  subst this
  exact ⟨fun f' hf=>by (cases hf),fun b s' hh=>by (cases hh;exact h y _ (gd_behind hg h1 (hk y h1)))⟩
theorem Wq.ite {c:Prop} [Decidable c] {x y:Pm α} {Q:α→Cs→Prop} (h:c→Wq x s Q) (g:¬ c→Wq y s Q):Wq (if c then x else y) s Q:=by
 by_cases k:c
 ·rw [if_pos k];exact h k
 ·rw [if_neg k];exact g k
theorem fix_kind {t:Tk} {k:ByteArray} (h:fixedT t=k) (hk:k ≠ ⟨#[]⟩):t.kind ≠ 7:=by
 intro e
 unfold fixedT at h
 rw [if_neg (by omega)] at h
 exact hk h.symm
theorem same_look {y:Yd} (h:Tr.look s=.ok y) {p:Yd→Prop} (hp:p y):∀ z,Tr.look s=.ok z→p z:=by
 intro z hz
 rw [h] at hz
 cases hz
 exact hp
theorem Wq.want {t:ByteArray} {Q:Yd→Cs→Prop} (hg:Gd s) (ht:t ≠ ⟨#[]⟩) (h:∀ y s',Gd s'→Q y s'):Wq (wantM t) s Q:=
 Wq.bind (Wq.look hg fun y hy=>Wq.ite (fun hf=>Wq.take hg (same_look hy (p:=fun y=>y.t.kind ≠ 7) (fix_kind hf ht)) h) (fun _=>Wq.fail (show (70:Int) ≠ 0 by decide)))
theorem Wq.name {Q:Yd→Cs→Prop} (hg:Gd s) (h:∀ y s',Gd s'→Q y s'):Wq nameM s Q:=
 Wq.bind (Wq.look hg fun y hy=>Wq.ite (fun hf=>Wq.take hg (same_look hy (p:=fun y=>y.t.kind ≠ 7) (by omega)) h) (fun _=>Wq.fail (show (70:Int) ≠ 0 by decide)))
end
def PreQ:Nt→Cs→Prop
 | .bn k,_=>1≤k
 | .bnT k _,_=>1≤k
 | .jm _,s=>∀ y,look s=.ok y→y.t.kind ≠ 7
 | _,_=>True
theorem Wq.st {s:Cs} {Q:Cs→Cs→Prop} (h:Q s s):Wq stM s Q:=by
 intro r e
 have:r=.ok (s,s):=(Option.some.inj e).symm
 subst this
 exact ⟨fun f hf=>by (cases hf),fun b s' hh=>by (cases hh;exact h)⟩
theorem comp_kind {t:Tk} (h:comp (fixedT t)=true):t.kind ≠ 7:=by
 intro e
 unfold fixedT at h
 rw [if_neg (by omega)] at h
 revert h
 decide
theorem tight_kind {t:Tk} {k:Nat} (h:tight (fixedT t)=k) (hk:1≤k):t.kind ≠ 7:=by
 intro e
 unfold fixedT at h
 rw [if_neg (by omega)] at h
 have:tight ⟨#[]⟩=0:=by decide
 omega
theorem perr:∀ (n:Nat) (nt:Nt) (s:Cs),Gd s→PreQ nt s→Wq (P n nt) s (fun _ s'=>Gd s')
 | 0,nt,s,hg,hp=>by intro r e;cases e
 | n + 1,nt,s,hg,hp=>by
  have ih:∀ (nt:Nt) (s:Cs) (Q:Fo→Cs→Prop),Gd s→PreQ nt s→(∀ a s',Gd s'→Q a s')→Wq (P n nt) s Q:=fun nt s Q hg hp h r e=>⟨(perr n nt s hg hp r e).1,fun a s' hh=>h a s' ((perr n nt s hg hp r e).2 a s' hh)⟩
  cases nt
  all_goals unfold P
  case' pl=>
   refine Wq.bind (ih _ _ _ hg trivial fun f s1 h1=>?_)
   refine Wq.bind (Wq.look h1 fun z hz=>?_)
   cases f
  case' bn k=>have hp:1≤k:=hp
  case' bnT k l=>have hp:1≤k:=hp
  case' jm k=>
   have hp:∀ y,look s=.ok y→y.t.kind ≠ 7:=hp
   refine Wq.bind (Wq.take hg hp fun y s1 h1=>?_)
  all_goals (repeat' (first | assumption | (with_reducible refine Wq.want (by assumption) (by decide) ?_;intro _ _ _) | (with_reducible refine Wq.name (by assumption) ?_;intro _ _ _) | (with_reducible refine Wq.bind ?_) | (with_reducible refine Wq.look (by assumption) ?_;intro _ _) | (with_reducible refine Wq.take (by assumption) (same_look (by assumption) (p:=fun y=>y.t.kind ≠ 7) (by (first | exact fix_kind (by assumption) (by decide) | exact comp_kind (by assumption) | exact tight_kind (by assumption) (by assumption) | omega | (rename_i hor;rcases hor with h | h <;> exact fix_kind h (by decide))))) ?_;intro _ _ _) | (with_reducible refine Wq.st ?_) | (with_reducible refine Wq.pure ?_) | (with_reducible refine Wq.ite ?_ ?_ <;> intro _) | (refine ih _ _ _ (by assumption) (by (first | exact trivial | (show 1≤_;omega) | (show _≤_;assumption) | (exact same_look (by assumption) (p:=fun y=>y.t.kind ≠ 7) (by (first | exact fix_kind (by assumption) (by decide) | exact comp_kind (by assumption) | exact tight_kind (by assumption) (by assumption) | omega | (rename_i hor;rcases hor with h | h <;> exact fix_kind h (by decide))))) | (split <;> exact trivial))) ?_;intro _ _ _)))
def Ful (N:Int) (s:Cs):Prop:=0≤N∧∀ y ∈ s.r,(y.c=0→y.a≤N)∧(y.c ≠ 0→y.f≤N)
def Bnf (N:Int) {α:Type} (x:Pm α):Prop:=∀ s r,Ful N s→x s=some r→(∀ f,r=.error f→f.2≤N)∧∀ a s',r=.ok (a,s')→s'.r <:+ s.r
theorem Ful.suf {N:Int} {s s':Cs} (h:Ful N s) (hs:s'.r <:+ s.r):Ful N s':=⟨h.1,fun y hy=>h.2 y (hs.subset hy)⟩
section
variable {α β:Type} {N:Int} {s:Cs} {y:Yd}
theorem Bnf.bind {x:Pm α} {f:α→Pm β} (h:Bnf N x) (g:∀ a,Bnf N (f a)):Bnf N (x.bind f):=by
 intro s r hs e
 rcases bind_inv e with ⟨q,h1,rfl⟩ | ⟨a,s',h1,h2⟩
 ·exact ⟨fun f' hf=>(h s _ hs h1).1 _ (by cases hf;rfl),fun a s' hh=>by cases hh⟩
 ·have hsuf:=(h s _ hs h1).2 a s' rfl
  obtain ⟨k1,k2⟩:=g a s' r (hs.suf hsuf) h2
  exact ⟨k1,fun b s2 hh=>(k2 b s2 hh).trans hsuf⟩
theorem Bnf.pure (a:α):Bnf N (Pm.pure a):=by
 intro s r hs e
 have:=pure_inv e
 subst this
 exact ⟨fun f hf=>(by cases hf),fun b s' hh=>by cases hh;exact List.suffix_refl _⟩
theorem Bnf.ite {c:Prop} [Decidable c] {x y:Pm α} (h:Bnf N x) (g:Bnf N y):Bnf N (if c then x else y):=by
 split
 ·exact h
 ·exact g
theorem look_mem (h:look s=.ok y):y ∈ s.r∧y.c=0∧s.r=y :: s.r.tail:=by
 unfold look at h
 cases hr:s.r with
 | nil=>rw [hr] at h;cases h
 | cons z l=>
  rw [hr] at h
  simp only at h
  by_cases c:z.c=0
  ·rw [if_pos c] at h
   split at h
   ·cases h
   ·cases h
    exact ⟨by simp,c,rfl⟩
  ·rw [if_neg c] at h
   cases h
theorem look_bad {f:Flt} (hs:Ful N s) (h:look s=.error f):f.2≤N:=by
 unfold look at h
 cases hr:s.r with
 | nil=>rw [hr] at h;cases h;exact hs.1
 | cons z l=>
  rw [hr] at h
  simp only at h
  have hz:=hs.2 z (by rw [hr];simp)
  by_cases c:z.c=0
  ·rw [if_pos c] at h
   split at h
   ·cases h;exact hz.1 c
   ·cases h
  ·rw [if_neg c] at h
   cases h
   exact hz.2 c
theorem Bnf.look:Bnf N lookM:=by
 intro s r hs e
 unfold lookM at e
 cases hl:Tr.look s with
 | error q=>
  rw [hl] at e
  cases e
  exact ⟨fun f hf=>(by cases hf;exact look_bad hs hl),fun b s' hh=>by cases hh⟩
 | ok y=>
  rw [hl] at e
  cases e
  exact ⟨fun f hf=>(by cases hf),fun b s' hh=>by cases hh;exact List.suffix_refl _⟩
theorem Bnf.take:Bnf N takeM:=by
 intro s r hs e
 unfold takeM at e
 cases hl:Tr.look s with
 | error q=>
  rw [hl] at e
  cases e
  exact ⟨fun f hf=>(by cases hf;exact look_bad hs hl),fun b s' hh=>by cases hh⟩
 | ok y=>
  rw [hl] at e
  cases e
  exact ⟨fun f hf=>(by cases hf),fun b s' hh=>by cases hh;exact List.tail_suffix _⟩
theorem Bnf.if {p:Yd→Prop} [DecidablePred p]:Bnf N (lookM.bind fun y=>if p y then takeM else failM (70,y.a)):=by
 intro s r hs e
 rcases look_inv e with ⟨q,h1,rfl⟩ | ⟨y,h1,h2⟩
 ·exact ⟨fun f hf=>(by cases hf;exact look_bad hs h1),fun b s' hh=>by cases hh⟩
 ·by_cases c:p y
  ·rw [if_pos c] at h2
   exact Bnf.take s r hs h2
  ·rw [if_neg c] at h2
   cases h2
   have hm:=look_mem h1
   exact ⟨fun f hf=>(by cases hf;exact (hs.2 y hm.1).1 hm.2.1),fun b s' hh=>by cases hh⟩
theorem Bnf.want (t:ByteArray):Bnf N (wantM t):=Bnf.if (p:=fun y=>fixedT y.t=t)
theorem Bnf.name:Bnf N nameM:=Bnf.if (p:=fun y=>y.t.kind=1)
theorem Bnf.st:Bnf N stM:=by
 intro s r hs e
 cases e
 exact ⟨fun f hf=>(by cases hf),fun b s' hh=>by cases hh;exact List.suffix_refl _⟩
end
def Sm (X Y:List Yd) (s t:Cs):Prop:=∃ L,s.r=L ++ X∧t.r=L ++ Y∧s.o=t.o∧∀ y ∈ L,y.c=0∧y.t.kind ≠ 7
def Tm (X Y:List Yd) {α:Type} (x:Pm α):Prop:=(∀ s a s',x s=some (.ok (a,s'))→s'.r.length≤s.r.length)∧∀ s t a s',Sm X Y s t→x s=some (.ok (a,s'))→X.length < s'.r.length→∃ t',x t=some (.ok (a,t'))∧Sm X Y s' t'
theorem bind_ok {α β:Type} {x:Pm α} {f:α→Pm β} {s s':Cs} {a:α} (h:x s=some (.ok (a,s'))):x.bind f s=f a s':=by
 unfold Pm.bind
 rw [h]
section
variable {α β:Type} {X Y:List Yd} {s t s':Cs} {y:Yd}
theorem Sm.more (h:Sm X Y s t) (hl:X.length < s.r.length):∃ z L,s.r=z :: (L ++ X)∧t.r=z :: (L ++ Y)∧s.o=t.o∧z.c=0∧z.t.kind ≠ 7∧∀ y ∈ L,y.c=0∧y.t.kind ≠ 7:=by
 obtain ⟨L,h1,h2,h3,h4⟩:=h
 cases L with
 | nil=>rw [h1] at hl;simp at hl
 | cons z L=>exact ⟨z,L,h1,h2,h3,(h4 z (by simp)).1,(h4 z (by simp)).2,fun y hy=>h4 y (by simp [hy])⟩
theorem Sm.look (h:Sm X Y s t) (hl:X.length < s.r.length):look t=look s:=by
 obtain ⟨z,L,h1,h2,h3,_⟩:=h.more hl
 unfold Tr.look
 rw [h1,h2,h3]
theorem Sm.behind (h:Sm X Y s t) (hl:X.length < s.r.length):Sm X Y (behind y s) (behind y t):=by
 obtain ⟨z,L,h1,h2,h3,_,_,h4⟩:=h.more hl
 exact ⟨L,by simp [Tr.behind,h1],by simp [Tr.behind,h2],by simp [Tr.behind,h3],h4⟩
theorem Tm.bind {x:Pm α} {f:α→Pm β} (h:Tm X Y x) (g:∀ a,Tm X Y (f a)):Tm X Y (x.bind f):=by
 constructor
 ·intro s b s2 e
  rcases bind_inv e with ⟨q,h1,h2⟩ | ⟨a,s1,h1,h2⟩
  ·cases h2
  ·exact Nat.le_trans ((g a).1 s1 b s2 h2) (h.1 s a s1 h1)
 ·intro s t b s2 hS e hl
  rcases bind_inv e with ⟨q,h1,h2⟩ | ⟨a,s1,h1,h2⟩
  ·cases h2
  ·obtain ⟨t1,k1,k2⟩:=h.2 s t a s1 hS h1 (Nat.lt_of_lt_of_le hl ((g a).1 s1 b s2 h2))
   rw [bind_ok k1]
   exact (g a).2 s1 t1 b s2 k2 h2 hl
theorem Tm.pure (a:α):Tm X Y (Pm.pure a):=by
 constructor
 ·intro s b s2 e
  cases e
  exact Nat.le_refl _
 ·intro s t b s2 hS e hl
  cases e
  exact ⟨t,rfl,hS⟩
theorem Tm.fail (f:Flt):Tm X Y (failM f:Pm α):=by
 constructor
 ·intro s b s2 e
  cases e
 ·intro s t b s2 hS e hl
  cases e
theorem Tm.ite {c:Prop} [Decidable c] {x y:Pm α} (h:Tm X Y x) (g:Tm X Y y):Tm X Y (if c then x else y):=by
 split
 ·exact h
 ·exact g
theorem lookM_ok {b:Yd} (e:lookM s=some (.ok (b,s'))):Tr.look s=.ok b∧s'=s:=by
 unfold lookM at e
 cases hl:Tr.look s with
 | error q=>rw [hl] at e;cases e
 | ok y=>rw [hl] at e;cases e;exact ⟨rfl,rfl⟩
theorem takeM_ok {b:Yd} (e:takeM s=some (.ok (b,s'))):Tr.look s=.ok b∧s'=behind b s:=by
 unfold takeM at e
 cases hl:Tr.look s with
 | error q=>rw [hl] at e;cases e
 | ok y=>rw [hl] at e;cases e;exact ⟨rfl,rfl⟩
theorem Tm.look:Tm X Y lookM:=by
 constructor
 ·intro s b s2 e
  rw [(lookM_ok e).2]
  exact Nat.le_refl _
 ·intro s t b s2 hS e hl
  obtain ⟨h1,rfl⟩:=lookM_ok e
  exact ⟨t,by unfold lookM;rw [hS.look hl,h1],hS⟩
theorem take_len {b:Yd} (e:takeM s=some (.ok (b,s'))):s'.r.length < s.r.length:=by
 obtain ⟨h1,rfl⟩:=takeM_ok e
 exact behind_lt h1
theorem take_go {b:Yd} (hS:Sm X Y s t) (e:takeM s=some (.ok (b,s'))) (hl:X.length≤s'.r.length):∃ t',takeM t=some (.ok (b,t'))∧Sm X Y s' t':=by
 have hl2:=Nat.lt_of_le_of_lt hl (take_len e)
 obtain ⟨h1,rfl⟩:=takeM_ok e
 exact ⟨Tr.behind b t,by unfold takeM;rw [hS.look hl2,h1],hS.behind hl2⟩
theorem Tm.take:Tm X Y takeM:=⟨fun s b s2 e=>Nat.le_of_lt (take_len e),fun s t b s2 hS e hl=>take_go hS e (Nat.le_of_lt hl)⟩
theorem Tm.want (t:ByteArray):Tm X Y (wantM t):=Tm.bind Tm.look fun y=>Tm.ite Tm.take (Tm.fail _)
theorem Tm.name:Tm X Y nameM:=Tm.bind Tm.look fun y=>Tm.ite Tm.take (Tm.fail _)
theorem Tm.label {n:Nat} (h1:Tm X Y (P n .lb)) (h2:Tm X Y (P n .pl)) (p:Prop) [Decidable p]:Tm X Y (stM.bind fun s=>if p∧colon s=true then P n .lb else P n .pl):=by
 constructor
 ·intro s b s2 e
  have e':(if p∧colon s=true then P n .lb else P n .pl) s=some (.ok (b,s2)):=e
  split at e'
  ·exact h1.1 s b s2 e'
  ·exact h2.1 s b s2 e'
 ·intro s t b s2 hS e hl
  have e':(if p∧colon s=true then P n .lb else P n .pl) s=some (.ok (b,s2)):=e
  have hlen:s2.r.length + 1≤s.r.length:=by
   split at e'
   ·exact P_le e'
   ·exact P_le e'
  have hc:colon t=colon s:=by
   obtain ⟨z,L,k1,k2,_⟩:=hS.more (by omega)
   rw [k1] at hlen
   cases L with
   | nil=>simp at hlen;omega
   | cons z2 L=>unfold colon;rw [k1,k2];rfl
  show ∃ t',(if p∧colon t=true then P n .lb else P n .pl) t=_∧_
  rw [hc]
  split at e'
  ·rename_i c
   rw [if_pos c]
   exact h1.2 s t b s2 hS e' hl
  ·rename_i c
   rw [if_neg c]
   exact h2.2 s t b s2 hS e' hl
end
def Tl (X Y:List Yd) {α:Type} (x:Pm α):Prop:=(∀ s a s',x s=some (.ok (a,s'))→s'.r.length < s.r.length)∧∀ s t a s',Sm X Y s t→x s=some (.ok (a,s'))→X.length≤s'.r.length→∃ t',x t=some (.ok (a,t'))∧Sm X Y s' t'
section
variable {α β:Type} {X Y:List Yd} {s t s':Cs} {y:Yd}
theorem Tl.bind {x:Pm α} {f:α→Pm β} (h:Tm X Y x) (g:∀ a,Tl X Y (f a)):Tl X Y (x.bind f):=by
 constructor
 ·intro s b s2 e
  rcases bind_inv e with ⟨q,h1,h2⟩ | ⟨a,s1,h1,h2⟩
  ·cases h2
  ·exact Nat.lt_of_lt_of_le ((g a).1 s1 b s2 h2) (h.1 s a s1 h1)
 ·intro s t b s2 hS e hl
  rcases bind_inv e with ⟨q,h1,h2⟩ | ⟨a,s1,h1,h2⟩
  ·cases h2
  ·obtain ⟨t1,k1,k2⟩:=h.2 s t a s1 hS h1 (Nat.lt_of_le_of_lt hl ((g a).1 s1 b s2 h2))
   rw [bind_ok k1]
   exact (g a).2 s1 t1 b s2 k2 h2 hl
theorem Tl.ret {x:Pm α} (g:α→β) (h:Tl X Y x):Tl X Y (x.bind fun a=>Pm.pure (g a)):=by
 constructor
 ·intro s b s2 e
  rcases bind_inv e with ⟨q,h1,h2⟩ | ⟨a,s1,h1,h2⟩
  ·cases h2
  ·cases h2
   exact h.1 s a _ h1
 ·intro s t b s2 hS e hl
  rcases bind_inv e with ⟨q,h1,h2⟩ | ⟨a,s1,h1,h2⟩
  ·cases h2
  ·cases h2
   obtain ⟨t1,k1,k2⟩:=h.2 s t a _ hS h1 hl
   rw [bind_ok k1]
   exact ⟨t1,rfl,k2⟩
theorem Tl.ite {c:Prop} [Decidable c] {x y:Pm α} (h:Tl X Y x) (g:Tl X Y y):Tl X Y (if c then x else y):=by
 split
 ·exact h
 ·exact g
theorem Tl.fail (f:Flt):Tl X Y (failM f:Pm α):=by
 constructor
 ·intro s b s2 e
  cases e
 ·intro s t b s2 hS e hl
  cases e
theorem Tl.take:Tl X Y takeM:=⟨fun s b s2 e=>take_len e,fun s t b s2 hS e hl=>take_go hS e hl⟩
theorem Tl.want (t:ByteArray):Tl X Y (wantM t):=Tl.bind Tm.look fun y=>Tl.ite Tl.take (Tl.fail _)
end
end Go.Proofs.YtkjaoandifednaaGreatDoor.W.Tr
namespace Go.Proofs.YtkjaoandifednaaGreatDoor.W
set_option linter.unusedVariables false
def Likes (Y Z:List UInt8):Prop:=Z=[]∨Z.head? = some 10∨Z.head? = Y.head? ∨ Z.head? = some 32
theorem Likes.stop {Y Z:List UInt8} (h:Likes Y Z) {p:UInt8→Bool} (h10:p 10=false∧p 32=false) (hy:∀ c,Y.head? = some c→p c=false):∀ c,Z.head? = some c→p c=false:=by
 intro c hc
 rcases h with rfl | h | h | h
 ·cases hc
 ·rw [h] at hc;injection hc with hc;rw [← hc];exact h10.1
 ·rw [h] at hc;exact hy c hc
 ·rw [h] at hc;injection hc with hc;rw [← hc];exact h10.2
theorem run_split (p:UInt8→Bool) (x Y:List UInt8) (h:runN p (x ++ Y)=x.length):(∀ c ∈ x,p c=true)∧∀ c,Y.head? = some c→p c=false:=by
 induction x with
 | nil=>
  refine ⟨fun c hc=>by simp at hc,fun c hc=>?_⟩
  cases Y with
  | nil=>cases hc
  | cons d Y=>
   injection hc with hc
   subst hc
   cases e:p d
   ·rfl
   ·rw [List.nil_append,runN_cons_t e] at h;simp at h
 | cons d x ih=>
  cases e:p d
  ·rw [List.cons_append,runN_cons_f e] at h;simp at h
  ·rw [List.cons_append,runN_cons_t e] at h
   obtain ⟨h1,h2⟩:=ih (by simpa using h)
   refine ⟨fun c hc=>?_,h2⟩
   rcases List.mem_cons.1 hc with rfl | hc
   ·exact e
   ·exact h1 c hc
theorem run_join (p:UInt8→Bool) (x Z:List UInt8) (h:∀ c ∈ x,p c=true) (hz:∀ c,Z.head? = some c→p c=false):runN p (x ++ Z)=x.length:=by
 induction x with
 | nil=>
  cases Z with
  | nil=>rfl
  | cons d Z=>exact runN_cons_f (hz d rfl)
 | cons d x ih=>
  rw [List.cons_append,runN_cons_t (h d (by simp)),ih (fun c hc=>h c (by simp [hc]))]
  rfl
theorem run_like (p:UInt8→Bool) (x Y Z:List UInt8) (hL:Likes Y Z) (h10:p 10=false∧p 32=false) (h:runN p (x ++ Y)=x.length):runN p (x ++ Z)=x.length:=by
 obtain ⟨h1,h2⟩:=run_split p x Y h
 exact run_join p x Z h1 (hL.stop h10 h2)
theorem take_app (x Z:List UInt8):(x ++ Z).take x.length=x:=by simp
theorem run_zero (p:UInt8→Bool) (c:UInt8) (r q:List UInt8) (h:runN p (c :: r)=0):runN p (c :: q)=0:=by
 cases e:p c
 ·exact runN_cons_f e
 ·rw [runN_cons_t e] at h;omega
theorem gap_like (c:UInt8) (x Y Z:List UInt8) (h:(gapP (c :: x ++ Y)).size=0):(gapP (c :: x ++ Z)).size=0:=by
 have h':gapN (c :: (x ++ Y))=0:=h
 show gapN (c :: (x ++ Z))=0
 have hd:∀ Q:List UInt8,(c :: (x ++ Q)).head? = some 35↔c=35:=fun Q=>by simp
 unfold gapN at h' ⊢
 by_cases g:c=35
 ·rw [if_pos ((hd _).2 g)] at h' ⊢
  exact run_zero _ _ _ _ h'
 ·rw [if_neg (fun e=>g ((hd _).1 e))] at h' ⊢
  exact run_zero _ _ _ _ h'
theorem name_like (c:UInt8) (x Y Z:List UInt8) (hL:Likes Y Z):((nameP (c :: x ++ Y)).size=0→(nameP (c :: x ++ Z)).size=0)∧(¬ (nameP (c :: x ++ Y)).size=0→(nameP (c :: x ++ Y)).size=(c :: x).length→nameP (c :: x ++ Z)=nameP (c :: x ++ Y)):=by
 have cn:∀ Q:List UInt8,(runN nameB (c :: x ++ Q)=0∨headB digB (c :: x ++ Q)=true)↔(nameB c=false∨digB c=true):=by
  intro Q
  have e:headB digB (c :: x ++ Q)=digB c:=rfl
  rw [e]
  constructor
  ·rintro (h | h)
   ·left
    cases e:nameB c
    ·rfl
    ·rw [List.cons_append,runN_cons_t e] at h;omega
   ·exact .inr h
  ·rintro (h | h)
   ·exact .inl (runN_cons_f h)
   ·exact .inr h
 by_cases k:nameB c=false∨digB c=true
 ·have z:∀ Q,nameP (c :: x ++ Q)=noPc:=fun Q=>by unfold nameP;exact if_pos ((cn Q).2 k)
  rw [z Y,z Z]
  exact ⟨fun _=>rfl,fun _ _=>rfl⟩
 ·have z:∀ Q,nameP (c :: x ++ Q)=if 31 < runN nameB (c :: x ++ Q) then badPc (runN nameB (c :: x ++ Q)) 63 else okPc (namedT ((c :: x ++ Q).take (runN nameB (c :: x ++ Q)))) (runN nameB (c :: x ++ Q)):=fun Q=>by unfold nameP;exact if_neg (fun h=>k ((cn Q).1 h))
  have sz:∀ Q,(nameP (c :: x ++ Q)).size=runN nameB (c :: x ++ Q):=fun Q=>by rw [z Q];split <;> rfl
  refine ⟨fun h=>?_,fun _ h=>?_⟩
  ·rw [sz] at h
   exact absurd ((cn Y).1 (.inl h)) k
  ·rw [sz] at h
   have h2:=run_like nameB (c :: x) Y Z hL (by decide) h
   rw [z Z,z Y,h,h2,take_app,take_app]
theorem whole_like (c:UInt8) (x Y Z:List UInt8) (hL:Likes Y Z):((wholeP (c :: x ++ Y)).size=0→(wholeP (c :: x ++ Z)).size=0)∧(¬ (wholeP (c :: x ++ Y)).size=0→(wholeP (c :: x ++ Y)).size=(c :: x).length→wholeP (c :: x ++ Z)=wholeP (c :: x ++ Y)):=by
 have sz:∀ Q:List UInt8,(wholeP Q).size=runN digB Q:=fun Q=>by
  unfold wholeP
  split
  ·rename_i h;rw [h];rfl
  ·split <;> rfl
 refine ⟨fun h=>?_,fun h0 h=>?_⟩
 ·rw [sz] at h ⊢
  exact run_zero _ _ _ _ h
 ·rw [sz] at h h0
  have h2:=run_like digB (c :: x) Y Z hL (by decide) h
  unfold wholeP
  rw [if_neg h0,if_neg (by rw [h2];simp),h,h2,take_app,take_app]
theorem pow_like (x Y Z:List UInt8) (hL:Likes Y Z) (h:powN (x ++ Y)=x.length):powN (x ++ Z)=x.length:=by
 cases x with
 | nil=>
  have hz:Z.head? ≠ some 112:=by
   rcases hL with rfl | hl | hl | hl
   ·simp
   ·rw [hl];decide
   rotate_left
   ·rw [hl];decide
   ·rw [hl]
    cases Y with
    | nil=>simp
    | cons d Y=>
     intro e
     injection e with e
     subst e
     rw [List.nil_append] at h
     unfold powN at h
     split at h <;> simp_all <;> omega
  cases Z with
  | nil=>rfl
  | cons d Z=>
   have hd:d ≠ 112:=fun e=>hz (by rw [e];rfl)
   show powN (d :: Z)=0
   unfold powN
   split <;> simp_all
 | cons c x=>
  have hc:c=112:=by
   by_cases e:c=112
   ·exact e
   ·rw [List.cons_append] at h
    unfold powN at h
    split at h <;> simp_all
  subst hc
  cases x with
  | nil=>
   have hy:∀ d,Y.head? = some d→d ≠ 43∧d ≠ 45∧digB d=false:=by
    intro d hd
    cases Y with
    | nil=>cases hd
    | cons e Y=>
     injection hd with hd
     subst hd
     have h1:powN (112 :: e :: Y)=1:=h
     refine ⟨?_,?_,?_⟩
     ·rintro rfl;unfold powN at h1;simp at h1;omega
     ·rintro rfl;unfold powN at h1;simp at h1;omega
     ·cases g:digB e
      ·rfl
      ·by_cases e1:e=43
       ·subst e1;unfold powN at h1;simp at h1;omega
       ·by_cases e2:e=45
        ·subst e2;unfold powN at h1;simp at h1;omega
        ·have:powN (112 :: e :: Y)=1 + runN digB (e :: Y):=by unfold powN;split <;> simp_all
         rw [this,runN_cons_t g] at h1
         omega
   show powN (112 :: Z)=1
   cases Z with
   | nil=>rfl
   | cons e Z=>
    have hz:e ≠ 43∧e ≠ 45∧digB e=false:=by
     rcases hL with hl | hl | hl | hl
     ·cases hl
     ·injection hl with hl;subst hl;decide
     ·exact hy e hl.symm
     ·injection hl with hl;subst hl;decide
    have:powN (112 :: e :: Z)=1 + runN digB (e :: Z):=by unfold powN;split <;> simp_all
    rw [this,runN_cons_f hz.2.2]
  | cons d x=>
   by_cases e1:d=43
   ·subst e1
    have a1:∀ Q,powN (112 :: 43 :: (x ++ Q))=2 + runN digB (x ++ Q):=fun Q=>rfl
    have h':2 + runN digB (x ++ Y)=x.length + 2:=h
    show 2 + runN digB (x ++ Z)=x.length + 2
    rw [run_like digB x Y Z hL (by decide) (by omega)]
    omega
   ·by_cases e2:d=45
    ·subst e2
     have h':2 + runN digB (x ++ Y)=x.length + 2:=h
     show 2 + runN digB (x ++ Z)=x.length + 2
     rw [run_like digB x Y Z hL (by decide) (by omega)]
     omega
    ·have a1:∀ Q,powN (112 :: d :: (x ++ Q))=1 + runN digB (d :: x ++ Q):=fun Q=>by unfold powN;split <;> simp_all
     have h':powN (112 :: d :: (x ++ Y))=x.length + 2:=h
     show powN (112 :: d :: (x ++ Z))=x.length + 2
     rw [a1] at h' ⊢
     have e3:(d :: x).length=x.length + 1:=rfl
     rw [run_like digB (d :: x) Y Z hL (by decide) (by omega)]
     omega
theorem dbl_like (x Y Z:List UInt8) (hL:Likes Y Z) (hx:2≤x.length) (h:dblN (x ++ Y)=x.length):dblN (x ++ Z)=x.length:=by
 unfold dblN at h ⊢
 have d2:∀ Q,(x ++ Q).drop 2=x.drop 2 ++ Q:=fun Q=>List.drop_append_of_le_length hx
 rw [d2] at h ⊢
 have hle:=runN_le hexPB (x.drop 2 ++ Y)
 obtain ⟨n,hn⟩:∃ n,runN hexPB (x.drop 2 ++ Y)=n:=⟨_,rfl⟩
 rw [hn] at h
 have hnx:n≤(x.drop 2).length:=by rw [List.length_drop];omega
 have dn:∀ Q,(x ++ Q).drop (2 + n)=x.drop (2 + n) ++ Q:=fun Q=>List.drop_append_of_le_length (by rw [List.length_drop] at hnx;omega)
 rw [dn] at h
 have hp:powN (x.drop (2 + n) ++ Y)=(x.drop (2 + n)).length:=by rw [List.length_drop];omega
 have hz:runN hexPB (x.drop 2 ++ Z)=n:=by
  by_cases c:n=(x.drop 2).length
  ·rw [c] at hn ⊢
   exact run_like hexPB _ Y Z hL (by decide) hn
  ·have hlt:n < (x.drop 2).length:=by omega
   have sp:∀ Q:List UInt8,x.drop 2 ++ Q=(x.drop 2).take n ++ ((x.drop 2).drop n ++ Q):=fun Q=>by rw [← List.append_assoc,List.take_append_drop]
   have tl:((x.drop 2).take n).length=n:=by rw [List.length_take];omega
   have h1:=hn
   rw [sp Y] at h1
   obtain ⟨a1,a2⟩:=run_split hexPB _ _ (by rw [tl];exact h1)
   rw [sp Z]
   rw [run_join hexPB _ _ a1 ?_,tl]
   intro c hc
   apply a2
   cases hq:(x.drop 2).drop n with
   | nil=>have:=congrArg List.length hq;rw [List.length_drop,List.length_drop,List.length_nil] at this;rw [List.length_drop] at hlt;omega
   | cons d q=>rw [hq] at hc;exact hc
 rw [hz,dn,pow_like _ Y Z hL hp,List.length_drop]
 rw [List.length_drop] at hnx
 omega
theorem two_like (c:UInt8) (x Y Z a:List UInt8) (hL:Likes Y Z) (h10:(10:UInt8) ∉ a∧(32:UInt8) ∉ a) (ha:a.length≤2) (h:(c :: x ++ Z).take a.length=a):(c :: x ++ Y).take a.length=a:=by
 match a,ha with
 | [],_=>rfl
 | [d],_=>exact h
 | [d,e],_=>
  cases x with
  | cons b x=>exact h
  | nil=>
   have h':c :: Z.take 1=[d,e]:=h
   injection h' with h1 h2
   show c :: Y.take 1=[d,e]
   rw [h1]
   congr 1
   rcases hL with rfl | hl | hl | hl
   ·simp at h2
   ·cases Z with
    | nil=>cases hl
    | cons z Z=>
     injection hl with hl
     simp at h2
     exact absurd (by rw [← h2,hl];simp) h10.1
   rotate_left
   ·cases Z with
    | nil=>cases hl
    | cons z Z=>
     injection hl with hl
     simp at h2
     exact absurd (by rw [← h2,hl];simp) h10.2
   ·cases Z with
    | nil=>simp at h2
    | cons z Z=>
     simp at h2
     cases Y with
     | nil=>cases hl
     | cons y Y=>
      injection hl with hl
      simp [← hl,h2]
theorem double_like (c:UInt8) (x Y Z:List UInt8) (hL:Likes Y Z):((doubleP (c :: x ++ Y)).size=0→(doubleP (c :: x ++ Z)).size=0)∧(¬ (doubleP (c :: x ++ Y)).size=0→(doubleP (c :: x ++ Y)).size=(c :: x).length→doubleP (c :: x ++ Z)=doubleP (c :: x ++ Y)):=by
 have sz:∀ Q:List UInt8,Q.take 2=hexT→(doubleP Q).size=dblN Q:=fun Q h=>by unfold doubleP;rw [if_pos h];split <;> rfl
 have no:∀ Q:List UInt8,¬ Q.take 2=hexT→doubleP Q=noPc:=fun Q h=>by unfold doubleP;rw [if_neg h]
 have back:(c :: x ++ Z).take 2=hexT→(c :: x ++ Y).take 2=hexT:=two_like c x Y Z hexT hL (by decide) (by decide)
 have dpos:∀ Q:List UInt8,¬ dblN Q=0:=fun Q=>by unfold dblN;omega
 by_cases k:(c :: x ++ Y).take 2=hexT
 ·refine ⟨fun h=>absurd ((sz _ k).symm.trans h) (dpos _),fun _ h=>?_⟩
  rw [sz _ k] at h
  have h2:2≤(c :: x).length:=by rw [← h];unfold dblN;omega
  have e2:∀ Q:List UInt8,(c :: x ++ Q).take 2=(c :: x).take 2:=fun Q=>List.take_append_of_le_length h2
  have kz:(c :: x ++ Z).take 2=hexT:=by rw [e2] at k ⊢;exact k
  have hz:=dbl_like (c :: x) Y Z hL h2 h
  unfold doubleP
  rw [if_pos k,if_pos kz,h,hz,take_app,take_app]
 ·have kz:¬ (c :: x ++ Z).take 2=hexT:=fun h=>k (back h)
  rw [no _ k,no _ kz]
  exact ⟨fun _=>rfl,fun _ _=>rfl⟩
theorem spelt_like (x Y Z:List UInt8) (h:(speltP (x ++ Y)).2 < x.length) (h0:(speltP (x ++ Y)).2 ≠ 0):speltP (x ++ Z)=speltP (x ++ Y):=by
 match x with
 | []=>simp at h
 | [c]=>
  have e:(speltP (c :: Y)).2=0:=by
   have:(speltP (c :: Y)).2 < 1:=h
   omega
  exact absurd e h0
 | c :: d :: q=>
  rw [List.cons_append,List.cons_append] at h h0 ⊢
  rw [List.cons_append,List.cons_append]
  by_cases a:c.toNat < 32∨126 < c.toNat
  ·have e:∀ Q,speltP (c :: d :: (q ++ Q))=(0,0):=fun Q=>by unfold speltP;dsimp only;rw [if_pos a]
   rw [e,e]
  ·by_cases b:c=92
   ·subst b
    by_cases d1:d=92∨d=34∨d=110
    ·rcases d1 with rfl | rfl | rfl <;> rfl
    ·by_cases d4:d=120
     ·subst d4
      match q with
      | []=>
       exfalso
       have hs:(speltP (92 :: 120 :: ([] ++ Y))).2=0∨(speltP (92 :: 120 :: ([] ++ Y))).2=4:=by
        match Y with
        | []=>exact .inl rfl
        | [h1]=>exact .inl rfl
        | h1 :: h2 :: Y=>
         show (if hexB h1=true∧hexB h2=true then _ else ((0,0):Nat × Nat)).2=0∨(if hexB h1=true∧hexB h2=true then ((16 * hexV h1 + hexV h2).toNat,4) else ((0,0):Nat × Nat)).2=4
         split
         ·exact .inr rfl
         ·exact .inl rfl
       rcases hs with hs | hs
       ·exact h0 hs
       ·rw [hs] at h;simp at h
      | [h1]=>
       exfalso
       have hs:(speltP (92 :: 120 :: ([h1] ++ Y))).2=0∨(speltP (92 :: 120 :: ([h1] ++ Y))).2=4:=by
        match Y with
        | []=>exact .inl rfl
        | h2 :: Y=>
         show (if hexB h1=true∧hexB h2=true then _ else ((0,0):Nat × Nat)).2=0∨(if hexB h1=true∧hexB h2=true then ((16 * hexV h1 + hexV h2).toNat,4) else ((0,0):Nat × Nat)).2=4
         split
         ·exact .inr rfl
         ·exact .inl rfl
       rcases hs with hs | hs
       ·exact h0 hs
       ·rw [hs] at h;simp at h
      | h1 :: h2 :: q=>rfl
     ·exfalso
      apply h0
      obtain ⟨k1,k2,k3,k4,k5⟩:=(spelt_esc (d :: (q ++ Y))).2 d (q ++ Y) rfl
      rw [k5 (fun e=>d1 (.inl e)) (fun e=>d1 (.inr (.inl e))) (fun e=>d1 (.inr (.inr e))) d4]
   ·have e:∀ Q,speltP (c :: d :: (q ++ Q))=(c.toNat,1):=fun Q=>(spelt_head c (d :: (q ++ Q))).2 a b
    rw [e,e]
theorem ok_bad {n m:Nat} {t:Tk} (h:badPc n 61=okPc t m):False:=by
 have:=congrArg Pc.code h
 exact absurd (show (61:Int)=0 from this) (by decide)
theorem quote_big:∀ (f:Nat) (r:List UInt8) (k m:Nat) (acc:List UInt8) (t:Tk),quoteGo f r k acc=okPc t m→k < m
 | 0,r,k,m,acc,t,h=>(ok_bad (n:=k) (m:=m) (t:=t) (by simpa [quoteGo] using h)).elim
 | f + 1,[],k,m,acc,t,h=>(ok_bad ((quote_end (f + 1) k acc).symm.trans h)).elim
 | f + 1,c :: q,k,m,acc,t,h=>by
  by_cases c1:c=34
  ·have:=(quote_stop (f + 1) k c q acc (by omega) c1).symm.trans h
   have e:=congrArg Pc.size this
   have e':k + 1=m:=e
   omega
  ·by_cases c2:(speltP (c :: q)).2=0
   ·exact (ok_bad ((quote_bad (f + 1) k c q acc (by omega) c1 c2).symm.trans h)).elim
   ·have:=quote_big f _ _ m _ t ((quote_on f k c q acc c1 c2).symm.trans h)
    omega
theorem quote_ge:∀ (f:Nat) (r:List UInt8) (k:Nat) (acc:List UInt8),k≤(quoteGo f r k acc).size
 | 0,r,k,acc=>by unfold quoteGo;exact Nat.le_refl _
 | f + 1,[],k,acc=>by rw [quote_end];exact Nat.le_refl _
 | f + 1,c :: q,k,acc=>by
  by_cases c1:c=34
  ·rw [quote_stop (f + 1) k c q acc (by omega) c1]
   exact Nat.le_succ _
  ·by_cases c2:(speltP (c :: q)).2=0
   ·rw [quote_bad (f + 1) k c q acc (by omega) c1 c2]
    exact Nat.le_refl _
   ·rw [quote_on f k c q acc c1 c2]
    exact Nat.le_trans (Nat.le_add_right _ _) (quote_ge f _ _ _)
theorem quote_like (n:Nat):∀ (f f':Nat) (x Y Z acc:List UInt8) (k m:Nat) (t:Tk),x.length≤n→m=k + x.length→quoteGo f (x ++ Y) k acc=okPc t m→x.length≤f'→quoteGo f' (x ++ Z) k acc=okPc t m:=by
 induction n with
 | zero=>
  intro f f' x Y Z acc k m t hx hm h hf
  have:=quote_big f _ k m acc t h
  omega
 | succ n ih=>
  intro f f' x Y Z acc k m t hx hm h hf
  have hb:=quote_big f _ k m acc t h
  cases x with
  | nil=>simp at hm;omega
  | cons c x=>
   cases f with
   | zero=>exact (ok_bad (n:=k) (m:=m) (t:=t) (by simpa [quoteGo] using h)).elim
   | succ f=>
    cases f' with
    | zero=>simp at hf
    | succ f'=>
     rw [List.cons_append] at h ⊢
     by_cases c1:c=34
     ·rw [quote_stop (f + 1) k c _ acc (by omega) c1] at h
      rw [quote_stop (f' + 1) k c _ acc (by omega) c1]
      exact h
     ·by_cases c2:(speltP (c :: (x ++ Y))).2=0
      ·exact (ok_bad ((quote_bad (f + 1) k c (x ++ Y) acc (by omega) c1 c2).symm.trans h)).elim
      ·rw [quote_on f k c (x ++ Y) acc c1 c2] at h
       have hb2:=quote_big f _ _ m _ t h
       have hlt:(speltP (c :: x ++ Y)).2 < (c :: x).length:=by
        show (speltP (c :: (x ++ Y))).2 < (c :: x).length
        omega
       have es:speltP (c :: (x ++ Z))=speltP (c :: (x ++ Y)):=spelt_like (c :: x) Y Z hlt c2
       rw [quote_on f' k c (x ++ Z) acc c1 (by rw [es];exact c2),es]
       obtain ⟨s,hs⟩:∃ s,speltP (c :: (x ++ Y))=s:=⟨_,rfl⟩
       have hlt':s.2 < (c :: x).length:=by rw [← hs];exact hlt
       rw [hs] at h hb2 c2 ⊢
       have dr:∀ Q:List UInt8,(c :: (x ++ Q)).drop s.2=(c :: x).drop s.2 ++ Q:=fun Q=>by
        rw [← List.cons_append]
        exact List.drop_append_of_le_length (by omega)
       rw [dr] at h ⊢
       exact ih f f' _ Y Z _ _ m t (by rw [List.length_drop];omega) (by rw [List.length_drop];omega) h (by rw [List.length_drop];omega)
theorem quoted_like (c:UInt8) (x Y Z:List UInt8):((quotedP (c :: x ++ Y)).size=0→(quotedP (c :: x ++ Z)).size=0)∧(∀ t,quotedP (c :: x ++ Y)=okPc t (c :: x).length→quotedP (c :: x ++ Z)=okPc t (c :: x).length):=by
 have hd:∀ Q:List UInt8,(c :: x ++ Q).head? = some 34↔c=34:=fun Q=>by simp
 by_cases k:c=34
 ·have e:∀ Q:List UInt8,quotedP (c :: x ++ Q)=qd (quoteGo (c :: x ++ Q).length (x ++ Q) 1 []):=fun Q=>by unfold quotedP;rw [if_pos ((hd Q).2 k)];rfl
  refine ⟨fun h0=>?_,fun t h=>?_⟩
  ·rw [e] at h0
   have:=quote_ge (c :: x ++ Y).length (x ++ Y) 1 []
   rcases qd_cases (quoteGo (c :: x ++ Y).length (x ++ Y) 1 []) with g | ⟨_,g⟩
   ·rw [g] at h0
    omega
   ·rw [g] at h0
    exact absurd h0 (by decide)
  ·rw [e] at h
   rw [e]
   have e1:(c :: x).length=1 + x.length:=by simp;omega
   rcases qd_cases (quoteGo (c :: x ++ Y).length (x ++ Y) 1 []) with g | ⟨_,g⟩
   ·rw [g] at h
    have h2:=quote_like x.length _ (c :: x ++ Z).length x Y Z [] 1 _ t (Nat.le_refl _) e1 h (by simp;omega)
    rw [qd_ok (by rw [h2];rfl)]
    exact h2
   ·rw [g] at h
    exact (ok_bad h).elim
 ·have e:∀ Q:List UInt8,quotedP (c :: x ++ Q)=noPc:=fun Q=>by unfold quotedP;exact if_neg (fun h=>k ((hd Q).1 h))
  rw [e,e]
  exact ⟨fun _=>rfl,fun _ h=>h⟩
theorem mark_like (c:UInt8) (x Y Z:List UInt8) (hL:Likes Y Z) (t:Tk) (h:markP (c :: x ++ Y)=okPc t (c :: x).length):markP (c :: x ++ Z)=okPc t (c :: x).length:=by
 unfold markP at h ⊢
 have m10:∀ m ∈ marks,((10:UInt8) ∉ m∧(32:UInt8) ∉ m)∧m.length≤2:=by decide
 cases hf:marks.find? (fun m=>(c :: x ++ Y).take m.length == m) with
 | none=>rw [hf] at h;have:=congrArg Pc.size h;simp [noPc,okPc] at this
 | some m=>
  rw [hf] at h
  have hsz:m.length=(c :: x).length:=congrArg Pc.size h
  obtain ⟨hp,as',bs,hl,hn⟩:=List.find?_eq_some_iff_append.1 hf
  have hz:marks.find? (fun m=>(c :: x ++ Z).take m.length == m)=some m:=by
   rw [List.find?_eq_some_iff_append]
   refine ⟨?_,as',bs,hl,fun a ha=>?_⟩
   ·rw [beq_iff_eq] at hp ⊢
    rw [hsz,take_app] at hp ⊢
    exact hp
   ·have hna:=hn a ha
    have ham:a ∈ marks:=by rw [hl];simp [ha]
    cases g:((c :: x ++ Z).take a.length == a)
    ·rfl
    ·exfalso
     have:=two_like c x Y Z a hL (m10 a ham).1 (m10 a ham).2 (by simpa using g)
     rw [this] at hna
     simp at hna
  rw [hz]
  exact h
theorem piece_like (x Y Z:List UInt8) (hL:Likes Y Z) (t:Tk) (hx:x ≠ []) (hk:t.kind ≠ 0) (h:pieceP (x ++ Y)=okPc t x.length):pieceP (x ++ Z)=okPc t x.length:=by
 cases x with
 | nil=>exact absurd rfl hx
 | cons c x=>
  have hpos:¬ (c :: x).length=0:=by simp
  unfold pieceP at h ⊢
  by_cases g1:(gapP (c :: x ++ Y)).size=0
  ·rw [orPc_none g1] at h
   rw [orPc_none (gap_like c x Y Z g1)]
   by_cases g2:(nameP (c :: x ++ Y)).size=0
   ·rw [orPc_none g2] at h
    rw [orPc_none ((name_like c x Y Z hL).1 g2)]
    by_cases g3:(doubleP (c :: x ++ Y)).size=0
    ·rw [orPc_none g3] at h
     rw [orPc_none ((double_like c x Y Z hL).1 g3)]
     by_cases g4:(wholeP (c :: x ++ Y)).size=0
     ·rw [orPc_none g4] at h
      rw [orPc_none ((whole_like c x Y Z hL).1 g4)]
      by_cases g5:(quotedP (c :: x ++ Y)).size=0
      ·rw [orPc_none g5] at h
       rw [orPc_none ((quoted_like c x Y Z).1 g5)]
       exact mark_like c x Y Z hL t h
      ·rw [orPc_some g5] at h
       have:=(quoted_like c x Y Z).2 t h
       rw [orPc_some (by rw [this];exact hpos),this]
     ·rw [orPc_some g4] at h
      have:=(whole_like c x Y Z hL).2 g4 (congrArg Pc.size h)
      rw [orPc_some (by rw [this];exact g4),this,h]
    ·rw [orPc_some g3] at h
     have:=(double_like c x Y Z hL).2 g3 (congrArg Pc.size h)
     rw [orPc_some (by rw [this];exact g3),this,h]
   ·rw [orPc_some g2] at h
    have:=(name_like c x Y Z hL).2 g2 (congrArg Pc.size h)
    rw [orPc_some (by rw [this];exact g2),this,h]
  ·rw [orPc_some g1] at h
   exfalso
   have:=congrArg (fun p=>p.t.kind) h
   exact hk this.symm
def toksS:Nat→List UInt8→Nat→List Yd
 | 0,_,_=>[]
 | f + 1,r,a=>if r=[] then [⟨endTk,a,0,0⟩] else
  if (pieceP r).size=0 then [⟨noTk,0,60,a⟩] else
  if (pieceP r).code ≠ 0 then [⟨noTk,0,(pieceP r).code,a⟩] else
  if (pieceP r).t.kind ≠ 0 then ⟨(pieceP r).t,a,0,0⟩ :: toksS f (r.drop (pieceP r).size) (a + (pieceP r).size) else toksS f (r.drop (pieceP r).size) (a + (pieceP r).size)
theorem toksY_S:∀ (f:Nat) (l:List UInt8) (a:Nat),toksY f l a=toksS f (l.drop a) a
 | 0,_,_=>rfl
 | f + 1,l,a=>by
  have e:l.drop a=[]↔l.length≤a:=List.drop_eq_nil_iff
  unfold toksY toksS
  by_cases c:l.length≤a
  ·rw [if_pos c,if_pos (e.2 c)]
  ·rw [if_neg c,if_neg (fun h=>c (e.1 h))]
   rw [toksY_S f l,List.drop_drop]
theorem toksS_fuel:∀ (f g:Nat) (r:List UInt8) (a:Nat),r.length < f→r.length < g→toksS f r a=toksS g r a
 | 0,_,_,_,h,_=>by omega
 | _,0,_,_,_,h=>by omega
 | f + 1,g + 1,r,a,hf,hg=>by
  unfold toksS
  by_cases c:r=[]
  ·rw [if_pos c,if_pos c]
  ·rw [if_neg c,if_neg c]
   by_cases c1:(pieceP r).size=0
   ·rw [if_pos c1,if_pos c1]
   ·rw [if_neg c1,if_neg c1]
    have hl:0 < r.length:=List.length_pos_iff.2 c
    have e:=toksS_fuel f g (r.drop (pieceP r).size) (a + (pieceP r).size) (by rw [List.length_drop];omega) (by rw [List.length_drop];omega)
    rw [e]
def T (r:List UInt8) (a:Nat):List Yd:=toksS (r.length + 1) r a
theorem src_T (l:List UInt8) (h:l.length≤65536):srcY l=T l 0:=by
 unfold srcY
 rw [if_neg (by omega),toksY_S]
 rfl
theorem T_nil (a:Nat):T [] a=[⟨endTk,a,0,0⟩]:=rfl
section
variable {r:List UInt8} {a:Nat}
theorem T_step (hr:r ≠ []):T r a=if (pieceP r).size=0 then [⟨noTk,0,60,a⟩] else if (pieceP r).code ≠ 0 then [⟨noTk,0,(pieceP r).code,a⟩] else if (pieceP r).t.kind ≠ 0 then ⟨(pieceP r).t,a,0,0⟩ :: T (r.drop (pieceP r).size) (a + (pieceP r).size) else T (r.drop (pieceP r).size) (a + (pieceP r).size):=by
 have hl:0 < r.length:=List.length_pos_iff.2 hr
 by_cases c1:(pieceP r).size=0
 ·rw [if_pos c1]
  unfold T
  conv=>lhs;unfold toksS
  rw [if_neg hr,if_pos c1]
 ·have e:=toksS_fuel r.length ((r.drop (pieceP r).size).length + 1) (r.drop (pieceP r).size) (a + (pieceP r).size) (by rw [List.length_drop];omega) (by omega)
  rw [if_neg c1]
  unfold T
  conv=>lhs;unfold toksS
  rw [if_neg hr,if_neg c1,e]
end
theorem piece_blank (c:UInt8) (r:List UInt8) (h:blankB c=true):pieceP (c :: r)=⟨noTk,runN blankB r + 1,0⟩:=by
 have g:gapN (c :: r)=runN blankB r + 1:=by
  unfold gapN
  rw [if_neg (by intro e;injection e with e;subst e;revert h;decide),runN_cons_t h]
 unfold pieceP
 have:gapP (c :: r)=⟨noTk,runN blankB r + 1,0⟩:=by unfold gapP;rw [g]
 rw [this,orPc_some (by simp)]
theorem T_blank (c:UInt8) (r:List UInt8) (a:Nat) (h:blankB c=true):T (c :: r) a=T r (a + 1):=by
 have e:=piece_blank c r h
 rw [T_step (by simp),e]
 simp only [Nat.add_eq_zero_iff,Nat.one_ne_zero,and_false,if_false]
 have k0:noTk.kind=0:=rfl
 rw [k0]
 simp only [ne_eq,not_true_eq_false,if_false,List.drop_succ_cons]
 cases r with
 | nil=>rfl
 | cons d q=>
  by_cases hd:blankB d=true
  ·have e2:=piece_blank d q hd
   rw [T_step (r:=d :: q) (by simp),e2]
   simp only [Nat.add_eq_zero_iff,Nat.one_ne_zero,and_false,if_false]
   rw [k0]
   simp only [ne_eq,not_true_eq_false,if_false,List.drop_succ_cons]
   rw [runN_cons_t hd]
   simp only [List.drop_succ_cons]
   congr 1
   omega
  ·rw [runN_cons_f (by simpa using hd)]
   rfl
def NoRem (r:List UInt8):Prop:=∀ x y,r=x ++ 35 :: y→(10:UInt8) ∈ y
theorem NoRem.tail {r:List UInt8} (x:List UInt8) (h:NoRem (x ++ r)):NoRem r:=fun u y e=>h (x ++ u) y (by rw [e,List.append_assoc])
theorem NoRem.drop {r:List UInt8} (k:Nat) (h:NoRem r):NoRem (r.drop k):=NoRem.tail (r.take k) (by rw [List.take_append_drop];exact h)
end Go.Proofs.YtkjaoandifednaaGreatDoor.W
namespace Go.Proofs.YtkjaoandifednaaGreatDoor.W.Tr
set_option linter.unusedVariables false
set_option linter.unusedSimpArgs false
theorem toks_gd (l:List UInt8):∀ (f a:Nat),l.length + 1≤f + a→0 < f→∃ xs z,toksY f l a=xs ++ [z]∧(z.c=0→z.t.kind=7)
 | 0,a,h,h0=>by omega
 | f + 1,a,h,h0=>by
  unfold toksY
  split
  ·exact ⟨[],_,rfl,fun _=>rfl⟩
  rename_i h1
  split
  ·exact ⟨[],_,rfl,fun e=>by cases e⟩
  rename_i h2
  split
  ·rename_i h3
   exact ⟨[],_,rfl,fun e=>absurd e h3⟩
  obtain ⟨xs,z,e,hz⟩:=toks_gd l f (a + (pieceP (l.drop a)).size) (by omega) (by omega)
  split
  ·exact ⟨_ :: xs,z,by rw [e];rfl,hz⟩
  ·exact ⟨xs,z,e,hz⟩
theorem gd_src (l:List UInt8):Gd ⟨srcY l,0⟩:=by
 unfold Gd srcY
 simp only
 split
 ·exact ⟨[],_,rfl,fun e=>by cases e⟩
 ·exact toks_gd l _ 0 (by omega) (by omega)
theorem ends_code {l:List UInt8} {f:Flt} (h:Ends l (.error f)):f.1 ≠ 0:=by
 obtain ⟨n,h⟩:=h
 exact (perr n (.pg .nil) _ (gd_src l) trivial _ h).1 f rfl
theorem pg_form':∀ (n:Nat) (l:Fo) (s:Cs) (fo:Fo) (s':Cs),P n (.pg l) s=some (.ok (fo,s'))→∃ nd m,fo=Fo.one nd m
 | 0,l,s,fo,s',h=>by cases h
 | n + 1,l,s,fo,s',h=>by
  have h:(lookM.bind fun y=>if y.t.kind=7 then Pm.pure (Fo.one ⟨1,0,⟨#[]⟩,0,0⟩ l) else (P n (if fixedT y.t=k_let then .gl else .fu)).bind fun x=>P n (.pg (l.app x))) s=some (.ok (fo,s')):=h
  rcases look_inv h with ⟨e,_,h1⟩ | ⟨y,_,h1⟩
  ·cases h1
  ·split at h1
   ·have:=pure_inv h1
    cases this
    exact ⟨_,_,rfl⟩
   ·rcases bind_inv h1 with ⟨e,_,h2⟩ | ⟨x,s1,_,h2⟩
    ·cases h2
    ·exact pg_form' n _ _ _ _ h2
end Go.Proofs.YtkjaoandifednaaGreatDoor.W.Tr
