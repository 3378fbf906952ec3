import Derived.Test.YtknkedihmmbanaaDoorJS
import Derived.Test.YtknkedihmmbanaaDoorJO
import Derived.Test.YtknkedihmmbanaaDoorJP
open List renaming cons_append → z0z, length_drop → z1z, drop_append_of_le_length → z2z, nil_append → z3z, drop_succ_cons → z5z, mem_cons → z6z, append_assoc → z7z, take_append_drop → z8z, eq_nil_of_length_eq_zero → z11z, find?_eq_some_iff_append → z12z
open Nat renaming le_refl → z4z, add_eq_zero_iff → z9z, one_ne_zero → z10z
set_option maxRecDepth 1000000
set_option maxHeartbeats 8000000
namespace Go.Proofs.YtknkedihmmbanaaDoor.W
set_option linter.unusedVariables false
def Likes(Y Z:List UInt8):Prop:=Z=[]\/Z.head? = some 10\/Z.head? = Y.head? \/ Z.head? = some 32
theorem Likes.stop{Y Z:List UInt8}(h:Likes Y Z){p:UInt8->Bool}(h10:p 10=false/\p 32=false)(hy:∀c,Y.head? = some c->p c=false):∀c,Z.head? = some c->p c=false:=by
 intro c hc
 rcases h with rfl|h|h|h
 ·cases hc
 ·rw[h] at hc;injection hc with hc;rw[<- hc];exact h10.1
 ·rw[h] at hc;exact hy c hc
 ·rw[h] at hc;injection hc with hc;rw[<- hc];exact h10.2
theorem run_split(p:UInt8->Bool)(x Y:List UInt8)(h:runN p (x++Y)=x.length):(∀c ∈ x,p c=true)/\∀c,Y.head? = some c->p c=false:=by
 induction x with
 | nil=>
  refine⟨λc hc=>by simp at hc,λc hc=>?_⟩
  cases Y with
  | nil=>cases hc
  | cons d Y=>
   injection hc with hc
   subst hc
   cases e:p d
   ·rfl
   ·rw[z3z,runN_cons_t e] at h;simp at h
 | cons d x ih=>
  cases e:p d
  ·rw[z0z,runN_cons_f e] at h;simp at h
  ·rw[z0z,runN_cons_t e] at h
   obtain⟨h1,h2⟩:=ih (by simpa using h)
   refine⟨λc hc=>?_,h2⟩
   rcases z6z.1 hc with rfl|hc
   ·exact e
   ·exact h1 c hc
theorem run_join(p:UInt8->Bool)(x Z:List UInt8)(h:∀c ∈ x,p c=true)(hz:∀c,Z.head? = some c->p c=false):runN p (x++Z)=x.length:=by
 induction x with
 | nil=>
  cases Z with
  | nil=>rfl
  | cons d Z=>exact runN_cons_f (hz d rfl)
 | cons d x ih=>
  rw[z0z,runN_cons_t (h d (by simp)),ih (λc hc=>h c (by simp[hc]))]
  rfl
theorem run_like(p:UInt8->Bool)(x Y Z:List UInt8)(hL:Likes Y Z)(h10:p 10=false/\p 32=false)(h:runN p (x++Y)=x.length):runN p (x++Z)=x.length:=by
 obtain⟨h1,h2⟩:=run_split p x Y h
 exact run_join p x Z h1 (hL.stop h10 h2)
theorem take_app(x Z:List UInt8):(x++Z).take x.length=x:=by simp
theorem run_zero(p:UInt8->Bool)(c:UInt8)(r q:List UInt8)(h:runN p (c::r)=0):runN p (c::q)=0:=by
 cases e:p c
 ·exact runN_cons_f e
 ·rw[runN_cons_t e] at h;omega
theorem gap_like(c:UInt8)(x Y Z:List UInt8)(h:(gapP (c::x++Y)).size=0):(gapP (c::x++Z)).size=0:=by
 have h':gapN (c::(x++Y))=0:=h
 show gapN (c::(x++Z))=0
 have hd:∀Q:List UInt8,(c::(x++Q)).head? = some 35↔c=35:=λQ=>by simp
 unfold gapN at h' ⊢
 by_cases g:c=35
 ·rw[if_pos ((hd _).2 g)] at h' ⊢
  exact run_zero _ _ _ _ h'
 ·rw[if_neg (λe=>g ((hd _).1 e))] at h' ⊢
  exact run_zero _ _ _ _ h'
theorem name_like(c:UInt8)(x Y Z:List UInt8)(hL:Likes Y Z):((nameP (c::x++Y)).size=0->(nameP (c::x++Z)).size=0)/\(¬ (nameP (c::x++Y)).size=0->(nameP (c::x++Y)).size=(c::x).length->nameP (c::x++Z)=nameP (c::x++Y)):=by
 have cn:∀Q:List UInt8,(runN nameB (c::x++Q)=0\/headB digB (c::x++Q)=true)↔(nameB c=false\/digB c=true):=by
  intro Q
  have e:headB digB (c::x++Q)=digB c:=rfl
  rw[e]
  constructor
  ·rintro(h|h)
   ·left
    cases e:nameB c
    ·rfl
    ·rw[z0z,runN_cons_t e] at h;omega
   ·exact .inr h
  ·rintro(h|h)
   ·exact .inl (runN_cons_f h)
   ·exact .inr h
 by_cases k:nameB c=false\/digB c=true
 ·have z:∀Q,nameP (c::x++Q)=noPc:=λQ=>by unfold nameP;exact if_pos ((cn Q).2 k)
  rw[z Y,z Z]
  exact⟨λ_=>rfl,λ_ _=>rfl⟩
 ·have z:∀Q,nameP (c::x++Q)=if 31<runN nameB (c::x++Q) then badPc (runN nameB (c::x++Q)) 63 else okPc (namedT ((c::x++Q).take (runN nameB (c::x++Q)))) (runN nameB (c::x++Q)):=λQ=>by unfold nameP;exact if_neg (λh=>k ((cn Q).1 h))
  have sz:∀Q,(nameP (c::x++Q)).size=runN nameB (c::x++Q):=λQ=>by rw[z Q];split <;> rfl
  refine⟨λh=>?_,λ_ h=>?_⟩
  ·rw[sz] at h
   exact absurd ((cn Y).1 (.inl h)) k
  ·rw[sz] at h
   have h2:=run_like nameB (c::x) Y Z hL (by decide) h
   rw[z Z,z Y,h,h2,take_app,take_app]
theorem whole_like(c:UInt8)(x Y Z:List UInt8)(hL:Likes Y Z):((wholeP (c::x++Y)).size=0->(wholeP (c::x++Z)).size=0)/\(¬ (wholeP (c::x++Y)).size=0->(wholeP (c::x++Y)).size=(c::x).length->wholeP (c::x++Z)=wholeP (c::x++Y)):=by
 have sz:∀Q:List UInt8,(wholeP Q).size=runN digB Q:=λQ=>by
  unfold wholeP
  split
  ·rename_i h;rw[h];rfl
  ·split <;> rfl
 refine⟨λh=>?_,λh0 h=>?_⟩
 ·rw[sz] at h ⊢
  exact run_zero _ _ _ _ h
 ·rw[sz] at h h0
  have h2:=run_like digB (c::x) Y Z hL (by decide) h
  unfold wholeP
  rw[if_neg h0,if_neg (by rw[h2];simp),h,h2,take_app,take_app]
theorem pow_like(x Y Z:List UInt8)(hL:Likes Y Z)(h:powN (x++Y)=x.length):powN (x++Z)=x.length:=by
 cases x with
 | nil=>
  have hz:Z.head? ≠ some 112:=by
   rcases hL with rfl|hl|hl|hl
   ·simp
   ·rw[hl];decide
   rotate_left
   ·rw[hl];decide
   ·rw[hl]
    cases Y with
    | nil=>simp
    | cons d Y=>
     intro e
     injection e with e
     subst e
     rw[z3z] at h
     unfold powN at h
     split at h <;> simp_all <;> omega
  cases Z with
  | nil=>rfl
  | cons d Z=>
   have hd:d≠112:=λe=>hz (by rw[e];rfl)
   show powN (d::Z)=0
   unfold powN
   split <;> simp_all
 | cons c x=>
  have hc:c=112:=by
   by_cases e:c=112
   ·exact e
   ·rw[z0z] at h
    unfold powN at h
    split at h <;> simp_all
  subst hc
  cases x with
  | nil=>
   have hy:∀d,Y.head? = some d->d≠43/\d≠45/\digB d=false:=by
    intro d hd
    cases Y with
    | nil=>cases hd
    | cons e Y=>
     injection hd with hd
     subst hd
     have h1:powN (112::e::Y)=1:=h
     refine⟨?_,?_,?_⟩
     ·rintro rfl;unfold powN at h1;simp at h1;omega
     ·rintro rfl;unfold powN at h1;simp at h1;omega
     ·cases g:digB e
      ·rfl
      ·by_cases e1:e=43
       ·subst e1;unfold powN at h1;simp at h1;omega
       ·by_cases e2:e=45
        ·subst e2;unfold powN at h1;simp at h1;omega
        ·have:powN (112::e::Y)=1+runN digB (e::Y):=by unfold powN;split <;> simp_all
         rw[this,runN_cons_t g] at h1
         omega
   show powN (112::Z)=1
   cases Z with
   | nil=>rfl
   | cons e Z=>
    have hz:e≠43/\e≠45/\digB e=false:=by
     rcases hL with hl|hl|hl|hl
     ·cases hl
     ·injection hl with hl;subst hl;decide
     ·exact hy e hl.symm
     ·injection hl with hl;subst hl;decide
    have:powN (112::e::Z)=1+runN digB (e::Z):=by unfold powN;split <;> simp_all
    rw[this,runN_cons_f hz.2.2]
  | cons d x=>
   by_cases e1:d=43
   ·subst e1
    have a1:∀Q,powN (112::43::(x++Q))=2+runN digB (x++Q):=λQ=>rfl
    have h':2+runN digB (x++Y)=x.length+2:=h
    show 2+runN digB (x++Z)=x.length+2
    rw[run_like digB x Y Z hL (by decide) (by omega)]
    omega
   ·by_cases e2:d=45
    ·subst e2
     have h':2+runN digB (x++Y)=x.length+2:=h
     show 2+runN digB (x++Z)=x.length+2
     rw[run_like digB x Y Z hL (by decide) (by omega)]
     omega
    ·have a1:∀Q,powN (112::d::(x++Q))=1+runN digB (d::x++Q):=λQ=>by unfold powN;split <;> simp_all
     have h':powN (112::d::(x++Y))=x.length+2:=h
     show powN (112::d::(x++Z))=x.length+2
     rw[a1] at h' ⊢
     have e3:(d::x).length=x.length+1:=rfl
     rw[run_like digB (d::x) Y Z hL (by decide) (by omega)]
     omega
theorem dbl_like(x Y Z:List UInt8)(hL:Likes Y Z)(hx:2<=x.length)(h:dblN (x++Y)=x.length):dblN (x++Z)=x.length:=by
 unfold dblN at h ⊢
 have d2:∀Q,(x++Q).drop 2=x.drop 2++Q:=λQ=>z2z hx
 rw[d2] at h ⊢
 have hle:=runN_le hexPB (x.drop 2++Y)
 obtain⟨n,hn⟩:∃n,runN hexPB (x.drop 2++Y)=n:=⟨_,rfl⟩
 rw[hn] at h
 have hnx:n<=(x.drop 2).length:=by rw[z1z];omega
 have dn:∀Q,(x++Q).drop (2+n)=x.drop (2+n)++Q:=λQ=>z2z (by rw[z1z] at hnx;omega)
 rw[dn] at h
 have hp:powN (x.drop (2+n)++Y)=(x.drop (2+n)).length:=by rw[z1z];omega
 have hz:runN hexPB (x.drop 2++Z)=n:=by
  by_cases c:n=(x.drop 2).length
  ·rw[c] at hn ⊢
   exact run_like hexPB _ Y Z hL (by decide) hn
  ·have hlt:n<(x.drop 2).length:=by omega
   have sp:∀Q:List UInt8,x.drop 2++Q=(x.drop 2).take n++((x.drop 2).drop n++Q):=λQ=>by rw[<- z7z,z8z]
   have tl:((x.drop 2).take n).length=n:=by rw[List.length_take];omega
   have h1:=hn
   rw[sp Y] at h1
   obtain⟨a1,a2⟩:=run_split hexPB _ _ (by rw[tl];exact h1)
   rw[sp Z]
   rw[run_join hexPB _ _ a1 ?_,tl]
   intro c hc
   apply a2
   cases hq:(x.drop 2).drop n with
   | nil=>have:=congrArg List.length hq;rw[z1z,z1z,List.length_nil] at this;rw[z1z] at hlt;omega
   | cons d q=>rw[hq] at hc;exact hc
 rw[hz,dn,pow_like _ Y Z hL hp,z1z]
 rw[z1z] at hnx
 omega
theorem two_like(c:UInt8)(x Y Z a:List UInt8)(hL:Likes Y Z)(h10:(10:UInt8) ∉ a/\(32:UInt8) ∉ a)(ha:a.length<=2)(h:(c::x++Z).take a.length=a):(c::x++Y).take a.length=a:=by
 match a,ha with
 | [],_=>rfl
 | [d],_=>exact h
 | [d,e],_=>
  cases x with
  | cons b x=>exact h
  | nil=>
   have h':c::Z.take 1=[d,e]:=h
   injection h' with h1 h2
   show c::Y.take 1=[d,e]
   rw[h1]
   congr 1
   rcases hL with rfl|hl|hl|hl
   ·simp at h2
   ·cases Z with
    | nil=>cases hl
    | cons z Z=>
     injection hl with hl
     simp at h2
     exact absurd (by rw[<- h2,hl];simp) h10.1
   rotate_left
   ·cases Z with
    | nil=>cases hl
    | cons z Z=>
     injection hl with hl
     simp at h2
     exact absurd (by rw[<- h2,hl];simp) h10.2
   ·cases Z with
    | nil=>simp at h2
    | cons z Z=>
     simp at h2
     cases Y with
     | nil=>cases hl
     | cons y Y=>
      injection hl with hl
      simp[<- hl,h2]
theorem double_like(c:UInt8)(x Y Z:List UInt8)(hL:Likes Y Z):((doubleP (c::x++Y)).size=0->(doubleP (c::x++Z)).size=0)/\(¬ (doubleP (c::x++Y)).size=0->(doubleP (c::x++Y)).size=(c::x).length->doubleP (c::x++Z)=doubleP (c::x++Y)):=by
 have sz:∀Q:List UInt8,Q.take 2=hexT->(doubleP Q).size=dblN Q:=λQ h=>by unfold doubleP;rw[if_pos h];split <;> rfl
 have no:∀Q:List UInt8,¬Q.take 2=hexT->doubleP Q=noPc:=λQ h=>by unfold doubleP;rw[if_neg h]
 have back:(c::x++Z).take 2=hexT->(c::x++Y).take 2=hexT:=two_like c x Y Z hexT hL (by decide) (by decide)
 have dpos:∀Q:List UInt8,¬dblN Q=0:=λQ=>by unfold dblN;omega
 by_cases k:(c::x++Y).take 2=hexT
 ·refine⟨λh=>absurd ((sz _ k).symm.trans h) (dpos _),λ_ h=>?_⟩
  rw[sz _ k] at h
  have h2:2<=(c::x).length:=by rw[<- h];unfold dblN;omega
  have e2:∀Q:List UInt8,(c::x++Q).take 2=(c::x).take 2:=λQ=>List.take_append_of_le_length h2
  have kz:(c::x++Z).take 2=hexT:=by rw[e2] at k ⊢;exact k
  have hz:=dbl_like (c::x) Y Z hL h2 h
  unfold doubleP
  rw[if_pos k,if_pos kz,h,hz,take_app,take_app]
 ·have kz:¬ (c::x++Z).take 2=hexT:=λh=>k (back h)
  rw[no _ k,no _ kz]
  exact⟨λ_=>rfl,λ_ _=>rfl⟩
theorem spelt_like(x Y Z:List UInt8)(h:(speltP (x++Y)).2<x.length)(h0:(speltP (x++Y)).2≠0):speltP (x++Z)=speltP (x++Y):=by
 match x with
 | []=>simp at h
 | [c]=>
  have e:(speltP (c::Y)).2=0:=by
   have:(speltP (c::Y)).2<1:=h
   omega
  exact absurd e h0
 | c::d::q=>
  rw[z0z,z0z] at h h0 ⊢
  rw[z0z,z0z]
  by_cases a:c.toNat<32\/126<c.toNat
  ·have e:∀Q,speltP (c::d::(q++Q))=(0,0):=λQ=>by unfold speltP;dsimp only;rw[if_pos a]
   rw[e,e]
  ·by_cases b:c=92
   ·subst b
    by_cases d1:d=92\/d=34\/d=110
    ·rcases d1 with rfl|rfl|rfl <;> rfl
    ·by_cases d4:d=120
     ·subst d4
      match q with
      | []=>
       exfalso
       have hs:(speltP (92::120::([]++Y))).2=0\/(speltP (92::120::([]++Y))).2=4:=by
        match Y with
        | []=>exact .inl rfl
        | [h1]=>exact .inl rfl
        | h1::h2::Y=>
         show (if hexB h1=true/\hexB h2=true then _ else ((0,0):Nat × Nat)).2=0\/(if hexB h1=true/\hexB h2=true then ((16*hexV h1+hexV h2).toNat,4) else ((0,0):Nat × Nat)).2=4
         split
         ·exact .inr rfl
         ·exact .inl rfl
       rcases hs with hs|hs
       ·exact h0 hs
       ·rw[hs] at h;simp at h
      | [h1]=>
       exfalso
       have hs:(speltP (92::120::([h1]++Y))).2=0\/(speltP (92::120::([h1]++Y))).2=4:=by
        match Y with
        | []=>exact .inl rfl
        | h2::Y=>
         show (if hexB h1=true/\hexB h2=true then _ else ((0,0):Nat × Nat)).2=0\/(if hexB h1=true/\hexB h2=true then ((16*hexV h1+hexV h2).toNat,4) else ((0,0):Nat × Nat)).2=4
         split
         ·exact .inr rfl
         ·exact .inl rfl
       rcases hs with hs|hs
       ·exact h0 hs
       ·rw[hs] at h;simp at h
      | h1::h2::q=>rfl
     ·exfalso
      apply h0
      obtain⟨k1,k2,k3,k4,k5⟩:=(spelt_esc (d::(q++Y))).2 d (q++Y) rfl
      rw[k5 (λe=>d1 (.inl e)) (λe=>d1 (.inr (.inl e))) (λe=>d1 (.inr (.inr e))) d4]
   ·have e:∀Q,speltP (c::d::(q++Q))=(c.toNat,1):=λQ=>(spelt_head c (d::(q++Q))).2 a b
    rw[e,e]
theorem ok_bad{n m:Nat}{t:Tk}(h:badPc n 61=okPc t m):False:=by
 have:=congrArg Pc.code h
 exact absurd (show (61:Int)=0 from this) (by decide)
theorem quote_big:∀ (f:Nat) (r:List UInt8) (k m:Nat) (acc:List UInt8) (t:Tk),quoteGo f r k acc=okPc t m->k<m
 | 0,r,k,m,acc,t,h=>(ok_bad (n:=k) (m:=m) (t:=t) (by simpa [quoteGo] using h)).elim
 | f+1,[],k,m,acc,t,h=>(ok_bad ((quote_end (f+1) k acc).symm.trans h)).elim
 | f+1,c::q,k,m,acc,t,h=>by
  by_cases c1:c=34
  ·have:=(quote_stop (f+1) k c q acc (by omega) c1).symm.trans h
   have e:=congrArg Pc.size this
   have e':k+1=m:=e
   omega
  ·by_cases c2:(speltP (c::q)).2=0
   ·exact(ok_bad ((quote_bad (f+1) k c q acc (by omega) c1 c2).symm.trans h)).elim
   ·have:=quote_big f _ _ m _ t ((quote_on f k c q acc c1 c2).symm.trans h)
    omega
theorem quote_ge:∀ (f:Nat) (r:List UInt8) (k:Nat) (acc:List UInt8),k<=(quoteGo f r k acc).size
 | 0,r,k,acc=>by unfold quoteGo;exact z4z _
 | f+1,[],k,acc=>by rw[quote_end];exact z4z _
 | f+1,c::q,k,acc=>by
  by_cases c1:c=34
  ·rw[quote_stop (f+1) k c q acc (by omega) c1]
   exact Nat.le_succ _
  ·by_cases c2:(speltP (c::q)).2=0
   ·rw[quote_bad (f+1) k c q acc (by omega) c1 c2]
    exact z4z _
   ·rw[quote_on f k c q acc c1 c2]
    exact Nat.le_trans (Nat.le_add_right _ _) (quote_ge f _ _ _)
theorem quote_like(n:Nat):∀ (f f':Nat) (x Y Z acc:List UInt8) (k m:Nat) (t:Tk),x.length<=n->m=k+x.length->quoteGo f (x++Y) k acc=okPc t m->x.length<=f'->quoteGo f' (x++Z) k acc=okPc t m:=by
 induction n with
 | zero=>
  intro f f' x Y Z acc k m t hx hm h hf
  have:=quote_big f _ k m acc t h
  omega
 | succ n ih=>
  intro f f' x Y Z acc k m t hx hm h hf
  have hb:=quote_big f _ k m acc t h
  cases x with
  | nil=>simp at hm;omega
  | cons c x=>
   cases f with
   | zero=>exact(ok_bad (n:=k) (m:=m) (t:=t) (by simpa [quoteGo] using h)).elim
   | succ f=>
    cases f' with
    | zero=>simp at hf
    | succ f'=>
     rw[z0z] at h ⊢
     by_cases c1:c=34
     ·rw[quote_stop (f+1) k c _ acc (by omega) c1] at h
      rw[quote_stop (f'+1) k c _ acc (by omega) c1]
      exact h
     ·by_cases c2:(speltP (c::(x++Y))).2=0
      ·exact(ok_bad ((quote_bad (f+1) k c (x++Y) acc (by omega) c1 c2).symm.trans h)).elim
      ·rw[quote_on f k c (x++Y) acc c1 c2] at h
       have hb2:=quote_big f _ _ m _ t h
       have hlt:(speltP (c::x++Y)).2<(c::x).length:=by
        show (speltP (c::(x++Y))).2<(c::x).length
        omega
       have es:speltP (c::(x++Z))=speltP (c::(x++Y)):=spelt_like (c::x) Y Z hlt c2
       rw[quote_on f' k c (x++Z) acc c1 (by rw[es];exact c2),es]
       obtain⟨s,hs⟩:∃s,speltP (c::(x++Y))=s:=⟨_,rfl⟩
       have hlt':s.2<(c::x).length:=by rw[<- hs];exact hlt
       rw[hs] at h hb2 c2 ⊢
       have dr:∀Q:List UInt8,(c::(x++Q)).drop s.2=(c::x).drop s.2++Q:=λQ=>by
        rw[<- z0z]
        exact z2z (by omega)
       rw[dr] at h ⊢
       exact ih f f' _ Y Z _ _ m t (by rw[z1z];omega) (by rw[z1z];omega) h (by rw[z1z];omega)
theorem quoted_like(c:UInt8)(x Y Z:List UInt8):((quotedP (c::x++Y)).size=0->(quotedP (c::x++Z)).size=0)/\(∀t,quotedP (c::x++Y)=okPc t (c::x).length->quotedP (c::x++Z)=okPc t (c::x).length):=by
 have hd:∀Q:List UInt8,(c::x++Q).head? = some 34↔c=34:=λQ=>by simp
 by_cases k:c=34
 ·have e:∀Q:List UInt8,quotedP (c::x++Q)=qd (quoteGo (c::x++Q).length (x++Q) 1 []):=λQ=>by unfold quotedP;rw[if_pos ((hd Q).2 k)];rfl
  refine⟨λh0=>?_,λt h=>?_⟩
  ·rw[e] at h0
   have:=quote_ge (c::x++Y).length (x++Y) 1 []
   rcases qd_cases (quoteGo (c::x++Y).length (x++Y) 1 []) with g|⟨_,g⟩
   ·rw[g] at h0
    omega
   ·rw[g] at h0
    exact absurd h0 (by decide)
  ·rw[e] at h
   rw[e]
   have e1:(c::x).length=1+x.length:=by simp;omega
   rcases qd_cases (quoteGo (c::x++Y).length (x++Y) 1 []) with g|⟨_,g⟩
   ·rw[g] at h
    have h2:=quote_like x.length _ (c::x++Z).length x Y Z [] 1 _ t (z4z _) e1 h (by simp;omega)
    rw[qd_ok (by rw[h2];rfl)]
    exact h2
   ·rw[g] at h
    exact(ok_bad h).elim
 ·have e:∀Q:List UInt8,quotedP (c::x++Q)=noPc:=λQ=>by unfold quotedP;exact if_neg (λh=>k ((hd Q).1 h))
  rw[e,e]
  exact⟨λ_=>rfl,λ_ h=>h⟩
theorem mark_like(c:UInt8)(x Y Z:List UInt8)(hL:Likes Y Z)(t:Tk)(h:markP (c::x++Y)=okPc t (c::x).length):markP (c::x++Z)=okPc t (c::x).length:=by
 unfold markP at h ⊢
 have m10:∀m ∈ marks,((10:UInt8) ∉ m/\(32:UInt8) ∉ m)/\m.length<=2:=by decide
 cases hf:marks.find? (λm=>(c::x++Y).take m.length==m) with
 | none=>rw[hf] at h;have:=congrArg Pc.size h;simp[noPc,okPc] at this
 | some m=>
  rw[hf] at h
  have hsz:m.length=(c::x).length:=congrArg Pc.size h
  obtain⟨hp,as',bs,hl,hn⟩:=z12z.1 hf
  have hz:marks.find? (λm=>(c::x++Z).take m.length==m)=some m:=by
   rw[z12z]
   refine⟨?_,as',bs,hl,λa ha=>?_⟩
   ·rw[beq_iff_eq] at hp ⊢
    rw[hsz,take_app] at hp ⊢
    exact hp
   ·have hna:=hn a ha
    have ham:a ∈ marks:=by rw[hl];simp[ha]
    cases g:((c::x++Z).take a.length==a)
    ·rfl
    ·exfalso
     have:=two_like c x Y Z a hL (m10 a ham).1 (m10 a ham).2 (by simpa using g)
     rw[this] at hna
     simp at hna
  rw[hz]
  exact h
theorem piece_like(x Y Z:List UInt8)(hL:Likes Y Z)(t:Tk)(hx:x≠[])(hk:t.kind≠0)(h:pieceP (x++Y)=okPc t x.length):pieceP (x++Z)=okPc t x.length:=by
 cases x with
 | nil=>exact absurd rfl hx
 | cons c x=>
  have hpos:¬ (c::x).length=0:=by simp
  unfold pieceP at h ⊢
  by_cases g1:(gapP (c::x++Y)).size=0
  ·rw[orPc_none g1] at h
   rw[orPc_none (gap_like c x Y Z g1)]
   by_cases g2:(nameP (c::x++Y)).size=0
   ·rw[orPc_none g2] at h
    rw[orPc_none ((name_like c x Y Z hL).1 g2)]
    by_cases g3:(doubleP (c::x++Y)).size=0
    ·rw[orPc_none g3] at h
     rw[orPc_none ((double_like c x Y Z hL).1 g3)]
     by_cases g4:(wholeP (c::x++Y)).size=0
     ·rw[orPc_none g4] at h
      rw[orPc_none ((whole_like c x Y Z hL).1 g4)]
      by_cases g5:(quotedP (c::x++Y)).size=0
      ·rw[orPc_none g5] at h
       rw[orPc_none ((quoted_like c x Y Z).1 g5)]
       exact mark_like c x Y Z hL t h
      ·rw[orPc_some g5] at h
       have:=(quoted_like c x Y Z).2 t h
       rw[orPc_some (by rw[this];exact hpos),this]
     ·rw[orPc_some g4] at h
      have:=(whole_like c x Y Z hL).2 g4 (congrArg Pc.size h)
      rw[orPc_some (by rw[this];exact g4),this,h]
    ·rw[orPc_some g3] at h
     have:=(double_like c x Y Z hL).2 g3 (congrArg Pc.size h)
     rw[orPc_some (by rw[this];exact g3),this,h]
   ·rw[orPc_some g2] at h
    have:=(name_like c x Y Z hL).2 g2 (congrArg Pc.size h)
    rw[orPc_some (by rw[this];exact g2),this,h]
  ·rw[orPc_some g1] at h
   exfalso
   have:=congrArg (λp=>p.t.kind) h
   exact hk this.symm
def toksS:Nat->List UInt8->Nat->List Yd
 | 0,_,_=>[]
 | f+1,r,a=>if r=[] then [⟨endTk,a,0,0⟩] else
  if (pieceP r).size=0 then [⟨noTk,0,60,a⟩] else
  if (pieceP r).code≠0 then [⟨noTk,0,(pieceP r).code,a⟩] else
  if (pieceP r).t.kind≠0 then ⟨(pieceP r).t,a,0,0⟩::toksS f (r.drop (pieceP r).size) (a+(pieceP r).size) else toksS f (r.drop (pieceP r).size) (a+(pieceP r).size)
theorem toksY_S:∀ (f:Nat) (l:List UInt8) (a:Nat),toksY f l a=toksS f (l.drop a) a
 | 0,_,_=>rfl
 | f+1,l,a=>by
  have e:l.drop a=[]↔l.length<=a:=List.drop_eq_nil_iff
  unfold toksY toksS
  by_cases c:l.length<=a
  ·rw[if_pos c,if_pos (e.2 c)]
  ·rw[if_neg c,if_neg (λh=>c (e.1 h))]
   rw[toksY_S f l,List.drop_drop]
theorem toksS_fuel:∀ (f g:Nat) (r:List UInt8) (a:Nat),r.length<f->r.length<g->toksS f r a=toksS g r a
 | 0,_,_,_,h,_=>by omega
 | _,0,_,_,_,h=>by omega
 | f+1,g+1,r,a,hf,hg=>by
  unfold toksS
  by_cases c:r=[]
  ·rw[if_pos c,if_pos c]
  ·rw[if_neg c,if_neg c]
   by_cases c1:(pieceP r).size=0
   ·rw[if_pos c1,if_pos c1]
   ·rw[if_neg c1,if_neg c1]
    have hl:0<r.length:=List.length_pos_iff.2 c
    have e:=toksS_fuel f g (r.drop (pieceP r).size) (a+(pieceP r).size) (by rw[z1z];omega) (by rw[z1z];omega)
    rw[e]
def T(r:List UInt8)(a:Nat):List Yd:=toksS (r.length+1) r a
theorem src_T(l:List UInt8)(h:l.length<=65536):srcY l=T l 0:=by
 unfold srcY
 rw[if_neg (by omega),toksY_S]
 rfl
theorem T_nil(a:Nat):T [] a=[⟨endTk,a,0,0⟩]:=rfl
section
variable {r:List UInt8} {a:Nat}
theorem T_step(hr:r≠[]):T r a=if (pieceP r).size=0 then [⟨noTk,0,60,a⟩] else if (pieceP r).code≠0 then [⟨noTk,0,(pieceP r).code,a⟩] else if (pieceP r).t.kind≠0 then ⟨(pieceP r).t,a,0,0⟩::T (r.drop (pieceP r).size) (a+(pieceP r).size) else T (r.drop (pieceP r).size) (a+(pieceP r).size):=by
 have hl:0<r.length:=List.length_pos_iff.2 hr
 by_cases c1:(pieceP r).size=0
 ·rw[if_pos c1]
  unfold T
  conv=>lhs;unfold toksS
  rw[if_neg hr,if_pos c1]
 ·have e:=toksS_fuel r.length ((r.drop (pieceP r).size).length+1) (r.drop (pieceP r).size) (a+(pieceP r).size) (by rw[z1z];omega) (by omega)
  rw[if_neg c1]
  unfold T
  conv=>lhs;unfold toksS
  rw[if_neg hr,if_neg c1,e]
end
theorem piece_blank(c:UInt8)(r:List UInt8)(h:blankB c=true):pieceP (c::r)=⟨noTk,runN blankB r+1,0⟩:=by
 have g:gapN (c::r)=runN blankB r+1:=by
  unfold gapN
  rw[if_neg (by intro e;injection e with e;subst e;revert h;decide),runN_cons_t h]
 unfold pieceP
 have:gapP (c::r)=⟨noTk,runN blankB r+1,0⟩:=by unfold gapP;rw[g]
 rw[this,orPc_some (by simp)]
theorem T_blank(c:UInt8)(r:List UInt8)(a:Nat)(h:blankB c=true):T (c::r) a=T r (a+1):=by
 have e:=piece_blank c r h
 rw[T_step (by simp),e]
 simp only[z9z,z10z,and_false,if_false]
 have k0:noTk.kind=0:=rfl
 rw[k0]
 simp only[ne_eq,not_true_eq_false,if_false,z5z]
 cases r with
 | nil=>rfl
 | cons d q=>
  by_cases hd:blankB d=true
  ·have e2:=piece_blank d q hd
   rw[T_step (r:=d::q) (by simp),e2]
   simp only[z9z,z10z,and_false,if_false]
   rw[k0]
   simp only[ne_eq,not_true_eq_false,if_false,z5z]
   rw[runN_cons_t hd]
   simp only[z5z]
   congr 1
   omega
  ·rw[runN_cons_f (by simpa using hd)]
   rfl
theorem piece_remark(r:List UInt8):pieceP (35::r)=⟨noTk,runN lineB r+1,0⟩:=by
 have g:gapN (35::r)=runN lineB r+1:=by
  unfold gapN
  rw[if_pos (show (35::r).head? = some 35 from rfl),runN_cons_t (by decide)]
 unfold pieceP
 have:gapP (35::r)=⟨noTk,runN lineB r+1,0⟩:=by unfold gapP;rw[g]
 rw[this,orPc_some (by simp)]
theorem T_remark(r:List UInt8)(a:Nat):T (35::r) a=T (r.drop (runN lineB r)) (a+(runN lineB r+1)):=by
 rw[T_step (by simp),piece_remark r]
 simp only[z9z,z10z,and_false,if_false]
 have k0:noTk.kind=0:=rfl
 rw[k0]
 simp only[ne_eq,not_true_eq_false,if_false,z5z]
def TokPc(p:Pc):Prop:=p.size≠0->p.code=0->p.t.kind≠0
theorem tok_no:TokPc noPc:=λh _=>absurd rfl h
theorem tok_bad(n:Nat)(c:Int)(h:c≠0):TokPc (badPc n c):=λ_ h2=>absurd h2 h
theorem tok_ok(t:Tk)(n:Nat)(h:t.kind≠0):TokPc (okPc t n):=λ_ _=>h
theorem tok_or{a b:Pc}(ha:TokPc a)(hb:TokPc b):TokPc (orPc a b):=by
 unfold orPc
 split
 ·exact hb
 ·exact ha
theorem named_kind(l:List UInt8):(namedT l).kind≠0:=by
 unfold namedT
 split
 ·decide
 ·split
  ·decide
  ·split
   ·show (2:Int)≠0;decide
   ·show (1:Int)≠0;decide
theorem quote_kind:∀ (f:Nat) (r:List UInt8) (k:Nat) (acc:List UInt8),TokPc (quoteGo f r k acc)
 | 0,r,k,acc=>by unfold quoteGo;exact tok_bad _ _ (by decide)
 | f+1,[],k,acc=>by rw[quote_end];exact tok_bad _ _ (by decide)
 | f+1,c::q,k,acc=>by
  by_cases c1:c=34
  ·rw[quote_stop (f+1) k c q acc (by omega) c1]
   exact tok_ok _ _ (show (6:Int)≠0 by decide)
  ·by_cases c2:(speltP (c::q)).2=0
   ·rw[quote_bad (f+1) k c q acc (by omega) c1 c2]
    exact tok_bad _ _ (by decide)
   ·rw[quote_on f k c q acc c1 c2]
    exact quote_kind f _ _ _
theorem rest_tok(r:List UInt8):TokPc (orPc (nameP r) (orPc (doubleP r) (orPc (wholeP r) (orPc (quotedP r) (markP r))))):=by
 refine tok_or ?_ (tok_or ?_ (tok_or ?_ (tok_or ?_ ?_)))
 ·unfold nameP
  split
  ·exact tok_no
  ·split
   ·exact tok_bad _ _ (by decide)
   ·exact tok_ok _ _ (named_kind _)
 ·unfold doubleP
  split
  ·split
   ·exact tok_ok _ _ (show (5:Int)≠0 by decide)
   ·exact tok_bad _ _ (by decide)
  ·exact tok_no
 ·unfold wholeP
  split
  ·exact tok_no
  ·split
   ·exact tok_ok _ _ (show (4:Int)≠0 by decide)
   ·exact tok_bad _ _ (by decide)
 ·unfold quotedP
  split
  ·rcases qd_cases (quoteGo r.length (r.drop 1) 1 []) with g|⟨_,g⟩
   ·rw[g]
    exact quote_kind _ _ _ _
   ·rw[g]
    exact tok_bad _ _ (by decide)
  ·exact tok_no
 ·unfold markP
  split
  ·exact tok_ok _ _ (show (3:Int)≠0 by decide)
  ·exact tok_no
theorem piece_gap(c:UInt8)(r:List UInt8)(hs:(pieceP (c::r)).size≠0)(hc:(pieceP (c::r)).code=0)(hk:(pieceP (c::r)).t.kind=0):c=35\/blankB c=true:=by
 by_cases h1:c=35
 ·exact .inl h1
 ·right
  cases h2:blankB c
  ·exfalso
   have g:=gap_none c r h1 h2
   unfold pieceP at hs hc hk
   rw[orPc_none g] at hs hc hk
   exact rest_tok _ hs hc hk
  ·rfl
def Well(L ts:List Yd)(n:Nat):Prop:=L=ts++[⟨endTk,(n:Nat),0,0⟩]/\∀y ∈ ts,y.c=0
def NoRem(r:List UInt8):Prop:=∀x y,r=x++35::y->(10:UInt8) ∈ y
theorem NoRem.tail{r:List UInt8}(x:List UInt8)(h:NoRem (x++r)):NoRem r:=λu y e=>h (x++u) y (by rw[e,z7z])
theorem NoRem.drop{r:List UInt8}(k:Nat)(h:NoRem r):NoRem (r.drop k):=NoRem.tail (r.take k) (by rw[z8z];exact h)
theorem run_stop(p:UInt8->Bool)(r Q:List UInt8)(h:∃c ∈ r,p c=false):runN p (r++Q)=runN p r:=by
 induction r with
 | nil=>obtain⟨c,hc,_⟩:=h;simp at hc
 | cons d q ih=>
  cases e:p d
  ·rw[z0z,runN_cons_f e,runN_cons_f e]
  ·rw[z0z,runN_cons_t e,runN_cons_t e,ih]
   obtain⟨c,hc,h⟩:=h
   rcases z6z.1 hc with rfl|hc
   ·rw[e] at h;cases h
   ·exact⟨c,hc,h⟩
theorem T_and(d:UInt8)(n:Nat):∀ (r B:List UInt8) (a:Nat) (ts:List Yd),(d=10\/d=32/\NoRem r)->r.length<=n->Well (T r a) ts (a+r.length)->T (r++d::B) a=ts++T B (a+r.length+1):=by
 induction n with
 | zero=>
  intro r B a ts hd hr hw
  have hr0:r=[]:=z11z (by omega)
  subst hr0
  have e:ts=[]:=by
   have h1:=hw.1
   rw[T_nil] at h1
   cases ts with
   | nil=>rfl
   | cons y ts=>have:=congrArg List.length h1;simp at this
  subst e
  rw[z3z,z3z,T_blank d B a (by rcases hd with rfl|⟨rfl,_⟩ <;> decide)]
  rfl
 | succ n ih=>
  intro r B a ts hd0 hr hw
  cases r with
  | nil=>exact ih [] B a ts hd0 (by simp) hw
  | cons c r=>
   have hle:=piece_le (c::r)
   obtain⟨hw1,hw2⟩:=hw
   have hst:=T_step (r:=c::r) (a:=a) (by simp)
   by_cases c1:(pieceP (c::r)).size=0
   ·exfalso
    rw[if_pos c1,hw1] at hst
    cases ts with
    | nil=>have:=congrArg (λl:List Yd=>(l[0]?).map (·.c)) hst;simp at this
    | cons y ts=>have:=congrArg List.length hst;simp at this
   ·rw[if_neg c1] at hst
    by_cases c2:(pieceP (c::r)).code=0
    ·rw[if_neg (by rw[c2];decide)] at hst
     by_cases c3:(pieceP (c::r)).t.kind=0
     ·rcases piece_gap c r c1 c2 c3 with rfl|hb
      ·rw[T_remark] at hw1
       have hrl:=runN_le lineB r
       have hd:((r++d::B).drop (runN lineB (r++d::B)))=r.drop (runN lineB r)++d::B/\runN lineB (r++d::B)=runN lineB r:=by
        have e:runN lineB (r++d::B)=runN lineB r:=by
         rcases hd0 with rfl|⟨_,hn⟩
         ·clear hw1 hw2 hle c1 c2 c3 hst hr ih hrl
          induction r with
          | nil=>exact runN_cons_f (by decide)
          | cons d q ihq=>
           cases e:lineB d
           ·rw[z0z,runN_cons_f e,runN_cons_f e]
           ·rw[z0z,runN_cons_t e,runN_cons_t e,ihq]
         ·exact run_stop lineB r _ ⟨10,hn [] r rfl,by decide⟩
        exact⟨by rw[e];exact z2z hrl,e⟩
       rw[z0z,T_remark,hd.1,hd.2]
       have hlen:(r.drop (runN lineB r)).length=r.length-runN lineB r:=z1z ..
       rw[ih (r.drop (runN lineB r)) B (a+(runN lineB r+1)) ts (hd0.imp id λh=>⟨h.1,(NoRem.tail [35] h.2).drop _⟩) (by rw[hlen];simp at hr;omega) ⟨by rw[hw1];congr 3;rw[hlen];simp;omega,hw2⟩]
       congr 2
       rw[hlen];simp;omega
      ·rw[T_blank c r a hb] at hw1
       rw[z0z,T_blank c _ a hb,ih r B (a+1) ts (hd0.imp id λh=>⟨h.1,NoRem.tail [c] h.2⟩) (by simpa using hr) ⟨by rw[hw1];congr 3;simp;omega,hw2⟩]
       congr 2
       simp;omega
     ·rw[if_pos c3,hw1] at hst
      obtain⟨p,hp⟩:∃p,pieceP (c::r)=p:=⟨_,rfl⟩
      rw[hp] at hle c1 c2 c3 hst
      have hpo:p=okPc p.t p.size:=by cases p;simp at c2;subst c2;rfl
      cases ts with
      | nil=>
       exfalso
       have h1:=congrArg List.length hst
       have h2:=congrArg (λl:List Yd=>(l[0]?).map (·.a)) hst
       simp at h2
       simp at hle
       omega
      | cons y ts=>
       rw[z0z] at hst
       injection hst with h1 h2
       have hx:(c::r).take p.size++(c::r).drop p.size=c::r:=z8z ..
       have hxl:((c::r).take p.size).length=p.size:=by rw[List.length_take];omega
       have hloc:pieceP ((c::r)++d::B)=p:=by
        have h3:pieceP ((c::r).take p.size++(c::r).drop p.size)=okPc p.t ((c::r).take p.size).length:=by rw[hx,hxl,hp];exact hpo
        have hlk:Likes ((c::r).drop p.size) ((c::r).drop p.size++d::B):=by
         cases hq:(c::r).drop p.size with
         | nil=>
          rcases hd0 with rfl|⟨rfl,_⟩
          ·exact .inr (.inl rfl)
          ·exact .inr (.inr (.inr rfl))
         | cons e q=>exact .inr (.inr (.inl rfl))
        have h4:=piece_like _ _ _ hlk p.t (by intro e;rw[e] at hxl;simp at hxl;omega) c3 h3
        rw[<- z7z,hx,hxl] at h4
        rw[h4];exact hpo.symm
       rw[T_step (r:=c::r++d::B) (by simp),hloc,if_neg c1,if_neg (by rw[c2];decide),if_pos c3]
       have hdl:((c::r).drop p.size).length=(c::r).length-p.size:=z1z ..
       have hd:((c::r)++d::B).drop p.size=(c::r).drop p.size++d::B:=z2z hle
       rw[hd,ih ((c::r).drop p.size) B (a+p.size) ts (hd0.imp id λh=>⟨h.1,h.2.drop _⟩) (by rw[hdl];simp at hr ⊢;omega) ⟨by rw[<- h2];congr 3;rw[hdl];omega,λz hz=>hw2 z (by simp[hz])⟩,<- h1]
       rw[z0z]
       congr 3
       rw[hdl];omega
    ·exfalso
     rw[if_pos c2,hw1] at hst
     cases ts with
     | nil=>have:=congrArg (λl:List Yd=>(l[0]?).map (·.c)) hst;simp at this;exact c2 this.symm
     | cons y ts=>have:=congrArg List.length hst;simp at this
theorem T_two(n:Nat)(r B:List UInt8)(a:Nat)(ts:List Yd)(h:r.length<=n)(hw:Well (T r a) ts (a+r.length)):T (r++10::B) a=ts++T B (a+r.length+1):=T_and 10 n r B a ts (.inl rfl) h hw
def shY(k:Nat)(y:Yd):Yd:=if y.c=0 then ⟨y.t,y.a+k,y.c,y.f⟩ else ⟨y.t,y.a,y.c,y.f+k⟩
theorem T_shift(k n:Nat):∀ (r:List UInt8) (a:Nat),r.length<=n->T r (a+k)=(T r a).map (shY k):=by
 induction n with
 | zero=>
  intro r a hr
  have hr0:r=[]:=z11z (by omega)
  subst hr0
  rw[T_nil,T_nil]
  simp[shY]
 | succ n ih=>
  intro r a hr
  cases r with
  | nil=>exact ih [] a (by simp)
  | cons c r=>
   rw[T_step (by simp),T_step (r:=c::r) (a:=a) (by simp)]
   have hle:=piece_le (c::r)
   by_cases c1:(pieceP (c::r)).size=0
   ·rw[if_pos c1,if_pos c1]
    simp[shY]
   ·rw[if_neg c1,if_neg c1]
    by_cases c2:(pieceP (c::r)).code=0
    ·have c2':¬ (pieceP (c::r)).code≠0:=λh=>h c2
     rw[if_neg c2',if_neg c2']
     have hdl:((c::r).drop (pieceP (c::r)).size).length<=n:=by rw[z1z];simp at hr ⊢;omega
     have e:=ih ((c::r).drop (pieceP (c::r)).size) (a+(pieceP (c::r)).size) hdl
     have e2:a+k+(pieceP (c::r)).size=a+(pieceP (c::r)).size+k:=by omega
     rw[e2,e]
     split
     ·simp[shY]
     ·rfl
    ·rw[if_pos c2,if_pos c2]
     simp[shY,c2]
theorem T_form(n:Nat):∀ (r:List UInt8) (a:Nat),r.length<=n->∃ts z,T r a=ts++[z]/\(∀y ∈ ts,y.c=0/\(a:Int)<=y.a/\y.a<=((a+r.length:Nat):Int))/\(z=⟨endTk,((a+r.length:Nat):Int),0,0⟩\/(z.c≠0/\z.a=0/\(a:Int)<=z.f/\z.f<=((a+r.length:Nat):Int))):=by
 induction n with
 | zero=>
  intro r a hr
  have hr0:r=[]:=z11z (by omega)
  subst hr0
  exact⟨[],_,rfl,by simp,.inl rfl⟩
 | succ n ih=>
  intro r a hr
  cases r with
  | nil=>exact ih [] a (by simp)
  | cons c r=>
   rw[T_step (by simp)]
   have hle:=piece_le (c::r)
   by_cases c1:(pieceP (c::r)).size=0
   ·rw[if_pos c1]
    refine⟨[],_,rfl,by simp,.inr ⟨show (60:Int)≠0 by decide,rfl,Int.le_refl _,?_⟩⟩
    show (a:Int)<=_
    omega
   ·rw[if_neg c1]
    by_cases c2:(pieceP (c::r)).code=0
    ·rw[if_neg (by rw[c2];decide)]
     have hdl:((c::r).drop (pieceP (c::r)).size).length<=n:=by rw[z1z];simp at hr ⊢;omega
     obtain⟨ts,z,h1,h2,h3⟩:=ih ((c::r).drop (pieceP (c::r)).size) (a+(pieceP (c::r)).size) hdl
     have el:a+(pieceP (c::r)).size+((c::r).drop (pieceP (c::r)).size).length=a+(c::r).length:=by rw[z1z];omega
     rw[el] at h2 h3
     have h2':∀y ∈ ts,y.c=0/\(a:Int)<=y.a/\y.a<=((a+(c::r).length:Nat):Int):=λy hy=>⟨(h2 y hy).1,by have:=(h2 y hy).2.1;omega,(h2 y hy).2.2⟩
     have h3':z=⟨endTk,((a+(c::r).length:Nat):Int),0,0⟩\/(z.c≠0/\z.a=0/\(a:Int)<=z.f/\z.f<=((a+(c::r).length:Nat):Int)):=by
      rcases h3 with h3|⟨q1,q2,q3,q4⟩
      ·exact .inl h3
      ·exact .inr ⟨q1,q2,by omega,q4⟩
     split
     ·refine⟨_::ts,z,by rw[h1];rfl,?_,h3'⟩
      intro y hy
      rcases z6z.1 hy with rfl|hy
      ·refine⟨rfl,Int.le_refl _,?_⟩
       show (a:Int)<=_
       omega
      ·exact h2' y hy
     ·exact⟨ts,z,h1,h2',h3'⟩
    ·rw[if_pos c2]
     refine⟨[],_,rfl,by simp,.inr ⟨c2,rfl,Int.le_refl _,?_⟩⟩
     show (a:Int)<=_
     omega
end Go.Proofs.YtknkedihmmbanaaDoor.W
