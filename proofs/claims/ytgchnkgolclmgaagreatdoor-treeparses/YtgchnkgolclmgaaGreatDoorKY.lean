import Derived.Test.YtgchnkgolclmgaaGreatDoorJR
import Derived.Test.YtgchnkgolclmgaaGreatDoorJO
import Derived.Test.YtgchnkgolclmgaaGreatDoorJP
open List renaming length_drop → aH, drop_succ_cons → aL
open Nat renaming add_eq_zero_iff → aY, one_ne_zero → ay
set_option maxRecDepth 1000000
set_option maxHeartbeats 8000000
namespace Go.Proofs.YtgchnkgolclmgaaGreatDoor.W
set_option linter.unusedVariables false
theorem wH:∀ (f:Nat) (r:List UInt8) (k:Nat) (acc:List UInt8),k<=(bq f r k acc).size
 | 0,r,k,acc=>by unfold bq;exact Nat.le_refl _
 | f+1,[],k,acc=>by rw[jP];exact Nat.le_refl _
 | f+1,c::q,k,acc=>by
  by_cases c1:c=34
  ·rw[iR (f+1) k c q acc (by omega) c1]
   exact Nat.le_succ _
  ·by_cases c2:(bZ (c::q)).2=0
   ·rw[jQ (f+1) k c q acc (by omega) c1 c2]
    exact Nat.le_refl _
   ·rw[kM f k c q acc c1 c2]
    exact Nat.le_trans (Nat.le_add_right _ _) (wH f _ _ _)
def qK:Nat->List UInt8->Nat->List Yd
 | 0,_,_=>[]
 | f+1,r,a=>if r=[] then [⟨qO,a,0,0⟩] else
  if (bF r).size=0 then [⟨gX,0,60,a⟩] else
  if (bF r).code≠0 then [⟨gX,0,(bF r).code,a⟩] else
  if (bF r).t.kind≠0 then ⟨(bF r).t,a,0,0⟩::qK f (r.drop (bF r).size) (a+(bF r).size) else qK f (r.drop (bF r).size) (a+(bF r).size)
theorem Fb:∀ (f:Nat) (l:List UInt8) (a:Nat),rG f l a=qK f (l.drop a) a
 | 0,_,_=>rfl
 | f+1,l,a=>by
  have e:l.drop a=[]↔l.length<=a:=List.drop_eq_nil_iff
  unfold rG qK
  by_cases c:l.length<=a
  ·rw[if_pos c,if_pos (e.2 c)]
  ·rw[if_neg c,if_neg (λh=>c (e.1 h))]
   rw[Fb f l,List.drop_drop]
theorem vW:∀ (f g:Nat) (r:List UInt8) (a:Nat),r.length<f->r.length<g->qK f r a=qK g r a
 | 0,_,_,_,h,_=>by omega
 | _,0,_,_,_,h=>by omega
 | f+1,g+1,r,a,hf,hg=>by
  unfold qK
  by_cases c:r=[]
  ·rw[if_pos c,if_pos c]
  ·rw[if_neg c,if_neg c]
   by_cases c1:(bF r).size=0
   ·rw[if_pos c1,if_pos c1]
   ·rw[if_neg c1,if_neg c1]
    have hl:0<r.length:=List.length_pos_iff.2 c
    have e:=vW f g (r.drop (bF r).size) (a+(bF r).size) (by rw[aH];omega) (by rw[aH];omega)
    rw[e]
def T(r:List UInt8)(a:Nat):List Yd:=qK (r.length+1) r a
theorem K9(l:List UInt8)(h:l.length<=65536):gU l=T l 0:=by
 unfold gU
 rw[if_neg (by omega),Fb]
 rfl
theorem Qu(a:Nat):T [] a=[⟨qO,a,0,0⟩]:=rfl
section
variable {r:List UInt8} {a:Nat}
theorem uG(hr:r≠[]):T r a=if (bF r).size=0 then [⟨gX,0,60,a⟩] else if (bF r).code≠0 then [⟨gX,0,(bF r).code,a⟩] else if (bF r).t.kind≠0 then ⟨(bF r).t,a,0,0⟩::T (r.drop (bF r).size) (a+(bF r).size) else T (r.drop (bF r).size) (a+(bF r).size):=by
 have hl:0<r.length:=List.length_pos_iff.2 hr
 by_cases c1:(bF r).size=0
 ·rw[if_pos c1]
  unfold T
  conv=>lhs;unfold qK
  rw[if_neg hr,if_pos c1]
 ·have e:=vW r.length ((r.drop (bF r).size).length+1) (r.drop (bF r).size) (a+(bF r).size) (by rw[aH];omega) (by omega)
  rw[if_neg c1]
  unfold T
  conv=>lhs;unfold qK
  rw[if_neg hr,if_neg c1,e]
end
theorem uK(c:UInt8)(r:List UInt8)(h:iC c=true):bF (c::r)=⟨gX,runN iC r+1,0⟩:=by
 have g:xA (c::r)=runN iC r+1:=by
  unfold xA
  rw[if_neg (by intro e;injection e with e;subst e;revert h;decide),dP h]
 unfold bF
 have:sK (c::r)=⟨gX,runN iC r+1,0⟩:=by unfold sK;rw[g]
 rw[this,yY (by simp)]
theorem Pk(c:UInt8)(r:List UInt8)(a:Nat)(h:iC c=true):T (c::r) a=T r (a+1):=by
 have e:=uK c r h
 rw[uG (by simp),e]
 simp only[aY,ay,and_false,if_false]
 have k0:gX.kind=0:=rfl
 rw[k0]
 simp only[ne_eq,not_true_eq_false,if_false,aL]
 cases r with
 | nil=>rfl
 | cons d q=>
  by_cases hd:iC d=true
  ·have e2:=uK d q hd
   rw[uG (r:=d::q) (by simp),e2]
   simp only[aY,ay,and_false,if_false]
   rw[k0]
   simp only[ne_eq,not_true_eq_false,if_false,aL]
   rw[dP hd]
   simp only[aL]
   congr 1
   omega
  ·rw[gM (by simpa using hd)]
   rfl
theorem AL(r:List UInt8):bF (35::r)=⟨gX,runN iE r+1,0⟩:=by
 have g:xA (35::r)=runN iE r+1:=by
  unfold xA
  rw[if_pos (show (35::r).head? = some 35 from rfl),dP (by decide)]
 unfold bF
 have:sK (35::r)=⟨gX,runN iE r+1,0⟩:=by unfold sK;rw[g]
 rw[this,yY (by simp)]
theorem N8(r:List UInt8)(a:Nat):T (35::r) a=T (r.drop (runN iE r)) (a+(runN iE r+1)):=by
 rw[uG (by simp),AL r]
 simp only[aY,ay,and_false,if_false]
 have k0:gX.kind=0:=rfl
 rw[k0]
 simp only[ne_eq,not_true_eq_false,if_false,aL]
def uY(p:Pc):Prop:=p.size≠0->p.code=0->p.t.kind≠0
theorem vY:uY lJ:=λh _=>absurd rfl h
theorem nQ(n:Nat)(c:Int)(h:c≠0):uY (gG n c):=λ_ h2=>absurd h2 h
theorem vX(t:Tk)(n:Nat)(h:t.kind≠0):uY (kN t n):=λ_ _=>h
theorem ze{a b:Pc}(ha:uY a)(hb:uY b):uY (jK a b):=by
 unfold jK
 split
 ·exact hb
 ·exact ha
theorem Eb(l:List UInt8):(kD l).kind≠0:=by
 unfold kD
 split
 ·decide
 ·split
  ·decide
  ·split
   ·show (2:Int)≠0;decide
   ·show (1:Int)≠0;decide
theorem wG:∀ (f:Nat) (r:List UInt8) (k:Nat) (acc:List UInt8),uY (bq f r k acc)
 | 0,r,k,acc=>by unfold bq;exact nQ _ _ (by decide)
 | f+1,[],k,acc=>by rw[jP];exact nQ _ _ (by decide)
 | f+1,c::q,k,acc=>by
  by_cases c1:c=34
  ·rw[iR (f+1) k c q acc (by omega) c1]
   exact vX _ _ (show (6:Int)≠0 by decide)
  ·by_cases c2:(bZ (c::q)).2=0
   ·rw[jQ (f+1) k c q acc (by omega) c1 c2]
    exact nQ _ _ (by decide)
   ·rw[kM f k c q acc c1 c2]
    exact wG f _ _ _
theorem Bz(r:List UInt8):uY (jK (nameP r) (jK (fC r) (jK (fJ r) (jK (dh r) (kP r))))):=by
 refine ze ?_ (ze ?_ (ze ?_ (ze ?_ ?_)))
 ·unfold nameP
  split
  ·exact vY
  ·split
   ·exact nQ _ _ (by decide)
   ·exact vX _ _ (Eb _)
 ·unfold fC
  split
  ·split
   ·exact vX _ _ (show (5:Int)≠0 by decide)
   ·exact nQ _ _ (by decide)
  ·exact vY
 ·unfold fJ
  split
  ·exact vY
  ·split
   ·exact vX _ _ (show (4:Int)≠0 by decide)
   ·exact nQ _ _ (by decide)
 ·unfold dh
  split
  ·rcases mo (bq r.length (r.drop 1) 1 []) with g|⟨_,g⟩
   ·rw[g]
    exact wG _ _ _ _
   ·rw[g]
    exact nQ _ _ (by decide)
  ·exact vY
 ·unfold kP
  split
  ·exact vX _ _ (show (3:Int)≠0 by decide)
  ·exact vY
theorem Tx(n:Nat):∀ (r:List UInt8) (a:Nat),r.length<=n->∃ts z,T r a=ts++[z]/\(∀y ∈ ts,y.c=0/\(a:Int)<=y.a/\y.a<=((a+r.length:Nat):Int))/\(z=⟨qO,((a+r.length:Nat):Int),0,0⟩\/(z.c≠0/\z.a=0/\(a:Int)<=z.f/\z.f<=((a+r.length:Nat):Int))):=by
 induction n with
 | zero=>
  intro r a hr
  have hr0:r=[]:=List.eq_nil_of_length_eq_zero (by omega)
  subst hr0
  exact⟨[],_,rfl,by simp,.inl rfl⟩
 | succ n ih=>
  intro r a hr
  cases r with
  | nil=>exact ih [] a (by simp)
  | cons c r=>
   rw[uG (by simp)]
   have hle:=jY (c::r)
   by_cases c1:(bF (c::r)).size=0
   ·rw[if_pos c1]
    refine⟨[],_,rfl,by simp,.inr ⟨show (60:Int)≠0 by decide,rfl,Int.le_refl _,?_⟩⟩
    show (a:Int)<=_
    omega
   ·rw[if_neg c1]
    by_cases c2:(bF (c::r)).code=0
    ·rw[if_neg (by rw[c2];decide)]
     have hdl:((c::r).drop (bF (c::r)).size).length<=n:=by rw[aH];simp at hr ⊢;omega
     obtain⟨ts,z,h1,h2,h3⟩:=ih ((c::r).drop (bF (c::r)).size) (a+(bF (c::r)).size) hdl
     have el:a+(bF (c::r)).size+((c::r).drop (bF (c::r)).size).length=a+(c::r).length:=by rw[aH];omega
     rw[el] at h2 h3
     have h2':∀y ∈ ts,y.c=0/\(a:Int)<=y.a/\y.a<=((a+(c::r).length:Nat):Int):=λy hy=>⟨(h2 y hy).1,by have:=(h2 y hy).2.1;omega,(h2 y hy).2.2⟩
     have h3':z=⟨qO,((a+(c::r).length:Nat):Int),0,0⟩\/(z.c≠0/\z.a=0/\(a:Int)<=z.f/\z.f<=((a+(c::r).length:Nat):Int)):=by
      rcases h3 with h3|⟨q1,q2,q3,q4⟩
      ·exact .inl h3
      ·exact .inr ⟨q1,q2,by omega,q4⟩
     split
     ·refine⟨_::ts,z,by rw[h1];rfl,?_,h3'⟩
      intro y hy
      rcases List.mem_cons.1 hy with rfl|hy
      ·refine⟨rfl,Int.le_refl _,?_⟩
       show (a:Int)<=_
       omega
      ·exact h2' y hy
     ·exact⟨ts,z,h1,h2',h3'⟩
    ·rw[if_pos c2]
     refine⟨[],_,rfl,by simp,.inr ⟨c2,rfl,Int.le_refl _,?_⟩⟩
     show (a:Int)<=_
     omega
end Go.Proofs.YtgchnkgolclmgaaGreatDoor.W
