import Derived.Test.YtknkedihmmbanaaDoorJG
import Derived.Test.YtknkedihmmbanaaDoorKY
import Derived.Test.YtknkedihmmbanaaDoorLC
import Derived.Test.YtknkedihmmbanaaDoorLT
open List renaming nil_append → z6z, length_drop → z9z, append_assoc → z10z, cons_append → z12z, getElem?_eq_getElem → z13z, drop_drop → z14z, getD_eq_getElem?_getD → z16z
open Nat renaming le_refl → z3z, zero_add → z8z
open Go.World renaming alloc → z7z, alloc_heap_new → z11z
open Go.RowKit.Below renaming heap_setCell → z0z, refl → z1z
open Go.IntKind renaming wrap_i64 → z15z
open Go.AllReadyH renaming cons → z4z, nil → z5z
open And renaming intro → z2z
open Go.Proofs.Tryd
set_option maxRecDepth 1000000
set_option maxHeartbeats 8000000
namespace Go.Proofs.YtknkedihmmbanaaDoor.W
set_option linter.unusedVariables false
def After(r Z:List UInt8):Prop:=Z=[]\/Z.head? = some 10\/(r≠[]/\Z.head? = r.head?)
def Begins(r:List UInt8)(t:Tk)(n:Nat):Prop:=pieceP r=okPc t n/\n≠0/\t.kind≠0/\n<=r.length/\r≠[]
theorem not_begins(c:UInt8)(r:List UInt8)(t:Tk)(n:Nat)(hb:blankB c=true)(h:Begins (c::r) t n):False:=by
 have e:=piece_blank c r hb
 rw[h.1] at e
 have:=congrArg (λp=>p.t.kind) e
 exact h.2.2.1 this
theorem T_skip(n:Nat):∀ (r:List UInt8) (a:Nat) (y:Yd) (L:List Yd),r.length<=n->T r a=y::L->y.c=0 ->
  ∃g rest,r=g++rest/\y.a=((a+g.length:Nat):Int)/\T rest (a+g.length)=y::L/\((rest=[]/\y=⟨endTk,((a+g.length:Nat):Int),0,0⟩/\L=[])\/∃k,Begins rest y.t k/\L=T (rest.drop k) (a+g.length+k)) /\
   ∀Z b,After rest Z->T (g++Z) b=T Z (b+g.length):=by
 induction n with
 | zero=>
  intro r a y L hr hT hy
  have hr0:r=[]:=List.eq_nil_of_length_eq_zero (by omega)
  subst hr0
  rw[T_nil] at hT
  injection hT with h1 h2
  refine⟨[],[],rfl,by rw[<- h1];rfl,by rw[<- h1,<- h2];rfl,.inl ⟨rfl,h1.symm,h2.symm⟩,λZ b _=>rfl⟩
 | succ n ih=>
  intro r a y L hr hT hy
  cases r with
  | nil=>exact ih [] a y L (by simp) hT hy
  | cons c r=>
   have hst:=T_step (r:=c::r) (a:=a) (by simp)
   have hle:=piece_le (c::r)
   rw[hT] at hst
   by_cases c1:(pieceP (c::r)).size=0
   ·rw[if_pos c1] at hst
    injection hst with h1 h2
    rw[h1] at hy
    exact absurd hy (show ¬ (60:Int)=0 by decide)
   ·rw[if_neg c1] at hst
    by_cases c2:(pieceP (c::r)).code=0
    ·rw[if_neg (λh=>h c2)] at hst
     by_cases c3:(pieceP (c::r)).t.kind=0
     ·rcases piece_gap c r c1 c2 c3 with rfl|hb
      ·rw[T_remark] at hT
       have hrl:=runN_le lineB r
       have hlen:(r.drop (runN lineB r)).length=r.length-runN lineB r:=z9z ..
       obtain⟨g,rest,h1,h2,h3,h4,h5⟩:=ih (r.drop (runN lineB r)) (a+(runN lineB r+1)) y L (by rw[hlen];simp at hr;omega) hT hy
       have hx:r.take (runN lineB r)++r.drop (runN lineB r)=r:=List.take_append_drop ..
       have tl:(r.take (runN lineB r)).length=runN lineB r:=by rw[List.length_take];omega
       have gl:(35::(r.take (runN lineB r)++g)).length=runN lineB r+1+g.length:=by simp[tl];omega
       have ea:a+(35::(r.take (runN lineB r)++g)).length=a+(runN lineB r+1)+g.length:=by rw[gl];omega
       refine⟨35::(r.take (runN lineB r)++g),rest,?_,?_,?_,?_,?_⟩
       ·rw[z12z,z10z,<- h1,hx]
       ·rw[ea];exact h2
       ·rw[ea];exact h3
       ·rw[ea];exact h4
       ·intro Z b hZ
        have hhead:∀d,(g++Z).head? = some d->lineB d=false:=by
         intro d hd
         have sp:runN lineB (r.take (runN lineB r)++r.drop (runN lineB r))=(r.take (runN lineB r)).length:=by rw[hx,tl]
         have hstop:=(run_split lineB _ _ sp).2
         cases g with
         | cons e g=>
          injection hd with hd
          subst hd
          apply hstop
          rw[h1];rfl
         | nil=>
          rw[z6z] at hd h1
          rcases h4 with⟨hr0,_,_⟩|⟨k,hk,_⟩
          ·rcases hZ with rfl|hZ|⟨hZ,_⟩
           ·cases hd
           ·rw[hZ] at hd;injection hd with hd;subst hd;decide
           ·exact absurd hr0 hZ
          ·exfalso
           cases hrest:rest with
           | nil=>exact hk.2.2.2.2 hrest
           | cons e q=>
            have he:lineB e=false:=hstop e (by rw[h1,hrest];rfl)
            have:e=10:=by
             unfold lineB at he
             simpa using he
            subst this
            rw[hrest] at hk
            exact not_begins 10 q _ k (by decide) hk
        have hrun:runN lineB (r.take (runN lineB r)++(g++Z))=runN lineB r:=by
         have a1:=(run_split lineB (r.take (runN lineB r)) (r.drop (runN lineB r)) (by rw[hx,tl])).1
         rw[run_join lineB _ _ a1 hhead,tl]
        have e1:(35::(r.take (runN lineB r)++g))++Z=35::(r.take (runN lineB r)++(g++Z)):=by simp
        rw[e1,T_remark,hrun]
        have e2:(r.take (runN lineB r)++(g++Z)).drop (runN lineB r)=g++Z:=by
         have:=List.drop_left (l₁:=r.take (runN lineB r)) (l₂:=g++Z)
         rw[tl] at this
         exact this
        rw[e2,h5 Z _ hZ]
        congr 1
        rw[gl];omega
      ·rw[T_blank c r a hb] at hT
       obtain⟨g,rest,h1,h2,h3,h4,h5⟩:=ih r (a+1) y L (by simpa using hr) hT hy
       have ea:a+(c::g).length=a+1+g.length:=by simp;omega
       refine⟨c::g,rest,by rw[h1];rfl,by rw[ea];exact h2,by rw[ea];exact h3,by rw[ea];exact h4,λZ b hZ=>?_⟩
       rw[z12z,T_blank c _ b hb,h5 Z _ hZ]
       congr 1
       simp;omega
     ·rw[if_pos c3] at hst
      injection hst with h1 h2
      refine⟨[],c::r,rfl,by rw[h1];rfl,hT,.inr ⟨(pieceP (c::r)).size,⟨?_,c1,by rw[h1];exact c3,hle,by simp⟩,h2⟩,λZ b _=>rfl⟩
      rw[h1]
      cases hp:pieceP (c::r)
      rw[hp] at c2
      simp at c2
      subst c2
      rfl
    ·rw[if_pos c2] at hst
     injection hst with h1 h2
     rw[h1] at hy
     exact absurd hy c2
def y0:Yd:=⟨noTk,0,0,0⟩
def pl(Ys:List Yd)(i:Nat):Nat:=(Ys.getD i y0).a.toNat
def insL(k:Nat):List UInt8:=if k=1 then [10] else if k=2 then [10,35,32,34,123,32,114,101,109,97,114,107,10,9] else if k=3 then [10,32,32] else []
theorem insL_one:insL 1=[10]:=rfl
theorem insL_two:insL 2=[10,35,32,34,123,32,114,101,109,97,114,107,10,9]:=rfl
theorem insL_three:insL 3=[10,32,32]:=rfl
theorem insL_none(k:Nat)(h1:k≠1)(h2:k≠2)(h3:k≠3):insL k=[]:=by unfold insL;rw[if_neg h1,if_neg h2,if_neg h3]
theorem ins_head(k:Nat):insL k=[]\/(insL k).head? = some 10:=by
 by_cases h1:k=1
 ·subst h1;exact .inr rfl
 ·by_cases h2:k=2
  ·subst h2;exact .inr rfl
  ·by_cases h3:k=3
   ·subst h3;exact .inr rfl
   ·exact .inl (insL_none k h1 h2 h3)
theorem T_ins(k:Nat)(Z:List UInt8)(a:Nat):T (insL k++Z) a=T Z (a+(insL k).length):=by
 by_cases h1:k=1
 ·subst h1
  rw[insL_one,z12z,z6z,T_blank 10 Z a (by decide)]
  rfl
 ·by_cases h2:k=2
  ·subst h2
   have e:insL 2++Z=10::35::([32,34,123,32,114,101,109,97,114,107]++10::9::Z):=by rw[insL_two];simp
   have el:(insL 2).length=14:=rfl
   rw[e,el,T_blank 10 _ a (by decide),T_remark]
   have hr:runN lineB ([32,34,123,32,114,101,109,97,114,107]++10::9::Z)=10:=run_join lineB _ _ (by decide) (by intro c hc;injection hc with hc;subst hc;decide)
   have hd:([32,34,123,32,114,101,109,97,114,107]++10::9::Z).drop 10=10::9::Z:=by simp
   rw[hr,hd,T_blank 10 _ _ (by decide),T_blank 9 _ _ (by decide)]
  ·by_cases h3:k=3
   ·subst h3
    have e:insL 3++Z=10::32::32::Z:=by rw[insL_three];simp
    have el:(insL 3).length=3:=rfl
    rw[e,el,T_blank 10 _ _ (by decide),T_blank 32 _ _ (by decide),T_blank 32 _ _ (by decide)]
   ·rw[insL_none k h1 h2 h3,z6z]
    rfl
def wf(S:Nat->List UInt8):Nat->Nat->List UInt8
 | 0,_=>[]
 | d+1,i=>S i++wf S d (i+1)
theorem wf_snoc(S:Nat->List UInt8):∀ (d i:Nat),wf S (d+1) i=wf S d i++S (i+d)
 | 0,i=>by simp[wf]
 | d+1,i=>by
  show S i++wf S (d+1) (i+1)=(S i++wf S d (i+1))++S (i+(d+1))
  rw[wf_snoc S d (i+1),z10z]
  congr 3
  omega
def seg(src:List UInt8)(Ys:List Yd)(i:Nat):List UInt8:=(src.take (pl Ys (i+1))).drop (pl Ys i)
structure PlaceY (src:List UInt8) (Ys:List Yd) (i:Nat):Prop where
 here:T (src.drop (pl Ys i)) (pl Ys i)=Ys.drop i
 le:pl Ys i<=src.length
 a:(Ys.getD i y0).a=((pl Ys i:Nat):Int)
 start:src.drop (pl Ys i)=[]\/∃k,Begins (src.drop (pl Ys i)) (Ys.getD i y0).t k
theorem place_of(src:List UInt8)(Ys:List Yd)(i:Nat)(r:List UInt8)(b:Nat)(hi:i<Ys.length)(hr:src.drop b=r)(hb:b<=src.length)(hT:T r b=Ys.drop i)(hc:∀y ∈ Ys,y.c=0):PlaceY src Ys i/\b<=pl Ys i/\∃g rest,r=g++rest/\src.drop (pl Ys i)=rest/\pl Ys i=b+g.length/\(∀Z c,After rest Z->T (g++Z) c=T Z (c+g.length))/\(i+1<Ys.length->∃k,Begins rest (Ys.getD i y0).t k/\Ys.drop (i+1)=T (rest.drop k) (pl Ys i+k)):=by
 have hd:Ys.drop i=Ys[i]::Ys.drop (i+1):=List.drop_eq_getElem_cons hi
 have hg:Ys.getD i y0=Ys[i]:=by rw[z16z,z13z hi];rfl
 rw[hd] at hT
 obtain⟨g,rest,h1,h2,h3,h4,h5⟩:=T_skip r.length r b Ys[i] (Ys.drop (i+1)) (z3z _) hT (hc _ (List.getElem_mem hi))
 have hp:pl Ys i=b+g.length:=by unfold pl;rw[hg,h2];exact Int.toNat_natCast _
 have hrest:src.drop (pl Ys i)=rest:=by
  rw[hp,<- z14z,hr,h1]
  simp
 have hl:pl Ys i<=src.length:=by
  have:=congrArg List.length hr
  rw[z9z,h1,List.length_append] at this
  omega
 refine⟨⟨by rw[hrest,hp,h3,hd],hl,by rw[hg,h2,hp],?_⟩,by omega,g,rest,h1,hrest,hp,h5,?_⟩
 ·rw[hrest,hg]
  rcases h4 with⟨h4,_,_⟩|⟨k,h4,_⟩
  ·exact .inl h4
  ·exact .inr ⟨k,h4⟩
 ·intro h6
  rw[hg,hp]
  rcases h4 with⟨_,_,h7⟩|h4
  ·have:=congrArg List.length h7
   rw[z9z] at this
   simp at this
   omega
  ·exact h4
theorem take_seg(l:List UInt8)(p q:Nat)(h:p<=q):(l.take q).drop p=(l.drop p).take (q-p):=by
 rw[List.drop_take]
theorem places(src:List UInt8)(Ys:List Yd)(hT:T src 0=Ys)(hc:∀y ∈ Ys,y.c=0):∀i,i<Ys.length->PlaceY src Ys i
 | 0,h=>(place_of src Ys 0 src 0 h rfl (Nat.zero_le _) (by rw[hT];rfl) hc).1
 | i+1,h=>by
  have p:=places src Ys hT hc i (by omega)
  obtain⟨_,_,g,rest,h1,h2,h3,h4,h5⟩:=place_of src Ys i (src.drop (pl Ys i)) (pl Ys i) (by omega) rfl p.le p.here hc
  obtain⟨k,hk,h6⟩:=h5 h
  have hk4:=hk.2.2.2.1
  have hl:=congrArg List.length h2
  rw[z9z] at hl
  refine(place_of src Ys (i+1) (rest.drop k) (pl Ys i+k) h ?_ (by have:=p.le;omega) h6.symm hc).1
  rw[<- h2,z14z]
structure StepY (src:List UInt8) (Ys:List Yd) (i:Nat) (x g:List UInt8):Prop where
 at':src.drop (pl Ys i)=x++(g++src.drop (pl Ys (i+1)))
 pc:pieceP (x++(g++src.drop (pl Ys (i+1))))=okPc (Ys.getD i y0).t x.length
 ne:x≠[]
 kind:(Ys.getD i y0).t.kind≠0
 nx:pl Ys (i+1)=pl Ys i+x.length+g.length
 sg:seg src Ys i=x++g
 gap:∀Z c,After (src.drop (pl Ys (i+1))) Z->T (g++Z) c=T Z (c+g.length)
theorem stepY(src:List UInt8)(Ys:List Yd)(hT:T src 0=Ys)(hc:∀y ∈ Ys,y.c=0)(i:Nat)(h:i+1<Ys.length):∃x g,StepY src Ys i x g:=by
 have p:=places src Ys hT hc i (by omega)
 obtain⟨_,_,g,rest,h1,h2,h3,h4,h5⟩:=place_of src Ys i (src.drop (pl Ys i)) (pl Ys i) (by omega) rfl p.le p.here hc
 obtain⟨k,hk,h6⟩:=h5 h
 have hk4:=hk.2.2.2.1
 have hl:=congrArg List.length h2
 rw[z9z] at hl
 have hple:=p.le
 obtain⟨_,_,g2,rest2,m1,m2,m3,m4,_⟩:=place_of src Ys (i+1) (rest.drop k) (pl Ys i+k) h (by rw[<- h2,z14z]) (by omega) h6.symm hc
 have xl:(rest.take k).length=k:=by rw[List.length_take];omega
 have hx:rest.take k++(g2++rest2)=rest:=by rw[<- m1];exact List.take_append_drop ..
 refine⟨rest.take k,g2,?_,?_,?_,hk.2.2.1,by rw[xl];exact m3,?_,?_⟩
 ·rw[m2,hx,h2]
 ·rw[m2,hx,xl];exact hk.1
 ·intro e;rw[e] at xl;exact hk.2.1 xl.symm
 ·unfold seg
  rw[take_seg _ _ _ (by omega),h2,m3]
  have:pl Ys i+k+g2.length-pl Ys i=(rest.take k++g2).length:=by rw[List.length_append,xl];omega
  rw[this]
  have hx2:rest=(rest.take k++g2)++rest2:=by rw[z10z];exact hx.symm
  generalize rest.take k++g2=X at *
  rw[hx2]
  exact List.take_left
 ·rw[m2];exact m4
def Sx'(src:List UInt8)(Ys:List Yd)(ks:Nat->Nat)(i:Nat):List UInt8:=seg src Ys i++insL (ks i)
theorem wide_T(src:List UInt8)(Ys:List Yd)(hT:T src 0=Ys)(hc:∀y ∈ Ys,y.c=0)(he:(Ys.getD (Ys.length-1) y0).t=endTk)(hend:pl Ys (Ys.length-1)=src.length)(ks:Nat->Nat):∀ (d i q:Nat),i+d+1=Ys.length ->
  ∃L,T (wf (Sx' src Ys ks) d i) q=L/\L.length=d+1/\(∀j,j<=d->(L.getD j y0).t=(Ys.getD (i+j) y0).t/\(L.getD j y0).c=0/\pl Ys i<=pl Ys (i+j)/\((q+(pl Ys (i+j)-pl Ys i):Nat):Int)<=(L.getD j y0).a/\(L.getD j y0).a<=((q+(wf (Sx' src Ys ks) d i).length:Nat):Int)) /\
   (d=0->wf (Sx' src Ys ks) d i=[]/\src.drop (pl Ys i)=[])/\(0<d->(wf (Sx' src Ys ks) d i).head? = (src.drop (pl Ys i)).head? /\ src.drop (pl Ys i)≠[])
 | 0,i,q,h=>by
  refine⟨_,T_nil q,rfl,?_,λ_=>⟨rfl,?_⟩,λh=>by omega⟩
  ·intro j hj
   obtain rfl:j=0:=by omega
   have ei:i=Ys.length-1:=by omega
   refine⟨?_,rfl,z3z _,?_,?_⟩
   ·show endTk=_
    rw[Nat.add_zero,ei,he]
   ·show ((q+(pl Ys (i+0)-pl Ys i):Nat):Int)<=(q:Int)
    rw[Nat.add_zero];omega
   ·show (q:Int)<=((q+0:Nat):Int)
    omega
  ·have ei:i=Ys.length-1:=by omega
   rw[ei,hend]
   exact List.drop_eq_nil_of_le (z3z _)
 | d+1,i,q,h=>by
  obtain⟨x,g,s⟩:=stepY src Ys hT hc i (by omega)
  have xl:0<x.length:=List.length_pos_iff.2 s.ne
  obtain⟨L,h1,h2,h3,h4,h5⟩:=wide_T src Ys hT hc he hend ks d (i+1) (q+x.length+g.length+(insL (ks i)).length) (by omega)
  have hW:wf (Sx' src Ys ks) (d+1) i=x++(g++(insL (ks i)++wf (Sx' src Ys ks) d (i+1))):=by
   show (seg src Ys i++insL (ks i))++wf (Sx' src Ys ks) d (i+1)=_
   rw[s.sg]
   simp
  obtain⟨V,hV⟩:∃V,wf (Sx' src Ys ks) d (i+1)=V:=⟨_,rfl⟩
  rw[hV] at h1 h3 h4 h5 hW
  have hAfter:After (src.drop (pl Ys (i+1))) (insL (ks i)++V):=by
   rcases ins_head (ks i) with e|e
   ·rw[e,z6z]
    by_cases d0:d=0
    ·exact .inl (h4 d0).1
    ·exact .inr (.inr ⟨(h5 (by omega)).2,(h5 (by omega)).1⟩)
   ·refine .inr (.inl ?_)
    cases hi:insL (ks i) with
    | nil=>rw[hi] at e;cases e
    | cons a b=>rw[hi] at e;exact e
  have hLikes:Likes (g++src.drop (pl Ys (i+1))) (g++(insL (ks i)++V)):=by
   cases g with
   | cons a b=>exact .inr (.inr (.inl rfl))
   | nil=>
    rw[z6z,z6z]
    rcases hAfter with e|e|e
    ·exact .inl e
    ·exact .inr (.inl e)
    ·exact .inr (.inr (.inl e.2))
  have hp:=piece_like x _ _ hLikes _ s.ne s.kind s.pc
  have hT1:T (wf (Sx' src Ys ks) (d+1) i) q=⟨(Ys.getD i y0).t,q,0,0⟩::L:=by
   rw[hW,T_step (by simp[s.ne]),hp]
   have e1:¬ (okPc (Ys.getD i y0).t x.length).size=0:=by show ¬x.length=0;omega
   rw[if_neg e1,if_neg (λh=>h rfl),if_pos (show (okPc (Ys.getD i y0).t x.length).t.kind≠0 from s.kind)]
   have e2:(x++(g++(insL (ks i)++V))).drop (okPc (Ys.getD i y0).t x.length).size=g++(insL (ks i)++V):=List.drop_left
   rw[e2,s.gap _ _ hAfter,T_ins]
   have e3:q+(okPc (Ys.getD i y0).t x.length).size+g.length+(insL (ks i)).length=q+x.length+g.length+(insL (ks i)).length:=rfl
   rw[e3,h1]
   rfl
  refine⟨_,hT1,by simp[h2],?_,λh=>by omega,λ_=>⟨?_,?_⟩⟩
  ·intro j hj
   cases j with
   | zero=>
    refine⟨rfl,rfl,z3z _,?_,?_⟩
    ·show ((q+(pl Ys (i+0)-pl Ys i):Nat):Int)<=(q:Int)
     rw[Nat.add_zero];omega
    ·show (q:Int)<=_
     omega
   | succ j=>
    obtain⟨a1,a2,a3,a4,a5⟩:=h3 j (by omega)
    have e:i+1+j=i+(j+1):=by omega
    rw[e] at a1 a3 a4
    have nx:=s.nx
    have wl:(wf (Sx' src Ys ks) (d+1) i).length=x.length+(g.length+((insL (ks i)).length+V.length)):=by rw[hW];simp
    refine⟨a1,a2,by omega,?_,?_⟩
    ·refine Int.le_trans ?_ a4
     omega
    ·refine Int.le_trans a5 ?_
     rw[wl]
     omega
  ·rw[hW,s.at']
   cases x with
   | nil=>exact absurd rfl s.ne
   | cons a b=>rfl
  ·rw[s.at']
   cases x with
   | nil=>exact absurd rfl s.ne
   | cons a b=>simp
open Go.ChangeShapes Go.WideShapes Go.RowKit Go.Shelf
def IsRow(k:IntKind)(w:World)(a:Option Addr)(len cap:Nat)(zs:List Int):Prop:=
 (a=none/\len=0/\cap=0/\zs=[]) \/
 ∃x,a=some x/\len<=cap/\cap<=maxLen/\zs.length=cap/\(∀i,i<zs.length->w.cell? (x.add i)=some (.int k (zs.getD i 0)))/\∀n ∈ zs,(Lit.int k n).wf=true
theorem lexBlanks_long(A:ByteArray)(h:5000<A.size)(o:Option Addr)(n cap:Nat)(w:World):Calls prog 5 #[.string A,.slice o n cap] w λe w'=>e=.returned (.bool true)/\Below w.heap.size w w':=by
 have c':(A.size:Int)>5000:=by omega
 clear h
 go_enter func5,ntmps5
 go_wp2
 go_ret
 exact⟨rfl,z1z _ _⟩
theorem lexBlanks_bad(A:ByteArray)(hA:A.size<=5000)(o:Option Addr)(n cap:Nat)(c f:Int)(hc:c≠0)(w:World)(ht:Tabs w)(hm:MarksIn w)
  (c1:∀w,Tabs w->MarksIn w->Calls prog 9 #[.string A] w λe w'=>Below w.heap.size w w'/\e=.returned (.tuple #[.slice none 0 0,.agg #[.int .i64 c,.int .i64 f]])) :
  Calls prog 5 #[.string A,.slice o n cap] w λe w'=>e=.returned (.bool true)/\Below w.heap.size w w':=by
 have c':¬ (A.size:Int)>5000:=by omega
 have hS:=Sx.refl ht hm
 clear ht hm hA
 go_enter func5,ntmps5
 go_upto_region 4 with(go_at_call 9;(with_reducible refine(c1 _ hS.tabs hS.marks).mono ?_);rintro e wn ⟨hb,rfl⟩;(replace hS:=hS.go hb);clear hb)
 have f1:=Blk.new wn #[Value.int .i64 c,Value.int .i64 f] 25
 replace hS:=hS.alloc (Obj.cells #[Value.int .i64 c,Value.int .i64 f] 25)
 generalize z7z wn _=W1 at *
 generalize wn.heap.size=b1 at *
 have q0:=f1.cells 0
 simp at q0
 clear c1
 go_wp2_with (go_at_call 12;refine(awake11_c _ hS.tabs hS.marks).mono ?_;rintro e wn ⟨rfl,hb⟩;(replace hS:=hS.go hb);clear hb)
 go_ret
 exact⟨rfl,hS.bel⟩
set_option linter.unusedSimpArgs false
theorem lb_ar(m n1:Nat)(h:n1=m+1)(hm:m<=5001):IntKind.i64.wrap ((n1:Int)-1)=(m:Int)/\wrap64 ((n1:Int)-1)=(m:Int):=by
 refine⟨?_,?_⟩
 ·rw[z15z];omega
 ·unfold wrap64;omega
theorem lb_ar1(k:Nat)(h:k<=5001):IntKind.i64.wrap ((k:Int)+1)=((k+1:Nat):Int)/\wrap64 ((k:Int)+1)=((k+1:Nat):Int):=by
 refine⟨?_,?_⟩
 ·rw[z15z];omega
 ·unfold wrap64;omega
theorem lb_ar2(p q s:Nat)(h:p<=q)(h2:q<=s)(h3:s<=5000):IntKind.i64.wrap ((q:Int)-(p:Int))=((q-p:Nat):Int)/\wrap64 ((q:Int)-(p:Int))=((q-p:Nat):Int):=by
 refine⟨?_,?_⟩
 ·rw[z15z];omega
 ·unfold wrap64;omega
def ksOf(zs:List Int)(n i:Nat):Nat:=if i<n then (bits .and .i64 (zs.getD i 0) 3).toNat else 0
theorem ext_seg(A:ByteArray)(Ys:List Yd)(k:Nat):(A.extract (pl Ys k) (pl Ys (k+1))).data.toList=seg A.data.toList Ys k:=by
 unfold seg
 simp[List.drop_take]
theorem lexBlanks_good(A:ByteArray)(hA:A.size<=5000)(o:Option Addr)(n cap:Nat)(zs:List Int)(Ys L:List Yd)(m n1:Nat)(hn1:n1=m+1)(hY1:Ys.length=n1)(hm0:m<=5001)(hL1:L.length=n1)
  (hend:∀ (h:m<Ys.length),Ys[m].t.kind=7) (hpl:∀k (h:k<Ys.length),Ys[k].a=((pl Ys k:Nat):Int)) (hup:∀k,k+1<Ys.length->pl Ys k<pl Ys (k+1)) (hle:∀k,k<Ys.length->pl Ys k<=A.size)
  (hsame:∀k (h:k<Ys.length) (h2:k<L.length),L[k].t=Ys[k].t/\((pl Ys k-pl Ys 0:Nat):Int)<=L[k].a) (hge:∀k,k<Ys.length->pl Ys 0<=pl Ys k) (w:World) (hrow:IsRow .i64 w o n cap zs) (ht:Tabs w) (hm:MarksIn w)
  (c1:∀w,Tabs w->MarksIn w->Calls prog 9 #[.string A] w λe w'=>Below w.heap.size w w'/\∃g cap,e=.returned (.tuple #[.slice (some ⟨g,0,none⟩) n1 cap,.agg #[.int .i64 0,.int .i64 0]])/\TokRow w' w.heap.size g cap Ys)
  (c2:∀V:ByteArray,V.data.toList=wf (Sx' A.data.toList Ys (ksOf zs n)) m 0->65536<V.size->∀w,Tabs w->MarksIn w->Calls prog 9 #[.string V] w λe w'=>Below w.heap.size w w'/\e=.returned (.tuple #[.slice none 0 0,.agg #[.int .i64 2,.int .i64 0]]))
  (c3:∀V:ByteArray,V.data.toList=wf (Sx' A.data.toList Ys (ksOf zs n)) m 0->¬65536<V.size->∀w,Tabs w->MarksIn w->Calls prog 9 #[.string V] w λe w'=>Below w.heap.size w w'/\∃g cap,e=.returned (.tuple #[.slice (some ⟨g,0,none⟩) n1 cap,.agg #[.int .i64 0,.int .i64 0]])/\TokRow w' w.heap.size g cap L) :
  Calls prog 5 #[.string A,.slice o n cap] w λe w'=>e=.returned (.bool true)/\Below w.heap.size w w':=by
 have c':¬ (A.size:Int)>5000:=by omega
 obtain⟨v1,v2⟩:=lb_ar m n1 hn1 hm0
 have hS:=Sx.refl ht hm
 have m1:(m:Int)<(n1:Int):=by omega
 have m2:(0:Int)<=(m:Int):=by omega
 have m3:¬n1=0:=by omega
 have m4:¬ (n1:Int)=0:=by omega
 have HN:=hid (z2z hn1 (z2z hY1 (z2z hm0 hL1)))
 have HA:=hid hA
 have HPL:=hid hpl
 have HUP:=hid hup
 have HLE:=hid hle
 have HSA:=hid hsame
 have HGE:=hid hge
 have HR:=hid hrow
 have C2:=hid c2
 have C3:=hid c3
 have HMY:m<Ys.length:=by omega
 have HE:=hid (hend HMY)
 clear ht hm hA hn1 hY1 hm0 hL1 hpl hup hle hsame hge hrow c2 c3 hend
 go_enter func5,ntmps5
 go_upto_region 4 with(go_at_call 9;(with_reducible refine(c1 _ hS.tabs hS.marks).mono ?_);rintro e wn ⟨hb,g1,k1,rfl,r1⟩;(replace hS:=hS.go hb);clear hb)
 have f1:=Blk.new wn #[Value.int .i64 0,Value.int .i64 0] 25
 replace hS:=hS.alloc (Obj.cells #[Value.int .i64 0,Value.int .i64 0] 25)
 replace r1:=r1.below ((z1z _ wn).alloc (z3z _) (Obj.cells #[Value.int .i64 0,Value.int .i64 0] 25))
 generalize z7z wn _=W1 at *
 generalize wn.heap.size=b1 at *
 have q0:=f1.cells 0
 simp at q0
 have e7:W1.cell? ⟨g1,m*5,none⟩=some (.int .i64 7):=by
  have:=(r1.at m HMY).1
  rw[this,HE.out]
 have R1:=hid r1
 have HS:=hid hS
 clear c1 r1 f1 hS HE HMY
 go_wp2_with fail
 clear q0 e7 v1 v2 c' m1 m2 m3 m4
 go_loopw [7,8] (λs i wr=>∃ (k:Nat) (V:ByteArray),s=.string V/\i=.int .i64 k/\k<=m/\V.data.toList=wf (Sx' A.data.toList Ys (ksOf zs n)) k 0/\V.size<=6000*k/\Below W1.heap.size W1 wr) (λ_ i _=>m-(intOf i).toNat)
 case atStart=>exact⟨0,⟨#[]⟩,rfl,rfl,by omega,rfl,by decide,z1z _ _⟩
 case round=>
  obtain⟨k,V,rfl,rfl,hk,hV,hVs,hB⟩:=hrel
  obtain⟨hn1,hY1,hm0,hL1⟩:=HN.out
  have s1:=R1.out.below hB
  obtain⟨vk,vk2⟩:=lb_ar1 k (by omega)
  by_cases c:k<m
  ·have x1:=(s1.at k (by omega)).2.1
   have x2:=(s1.at (k+1) (by omega)).2.1
   rw[HPL.out k (by omega)] at x1
   rw[HPL.out (k+1) (by omega)] at x2
   have u1:=HUP.out k (by omega)
   have u2:=HLE.out (k+1) (by omega)
   have xs:=ext_seg A Ys k
   have hw:wf (Sx' A.data.toList Ys (ksOf zs n)) (k+1) 0=wf (Sx' A.data.toList Ys (ksOf zs n)) k 0++(seg A.data.toList Ys k++insL (ksOf zs n k)):=by
    rw[wf_snoc]
    show _++Sx' _ _ _ (0+k)=_
    rw[z8z]
    rfl
   rw[<- hV,<- xs] at hw
   generalize pl Ys k=p at *
   generalize pl Ys (k+1)=q at *
   have l1:((k+1:Nat):Int)<(n1:Int):=by omega
   have l2:(k:Int)<(n1:Int):=by omega
   have l0:(0:Int)<=(k:Int):=by omega
   have l3:(0:Int)<=((k+1:Nat):Int):=by omega
   have l4:¬ (p:Int)≥(q:Int):=by omega
   have l5:¬ (q:Int)>(A.size:Int):=by omega
   have l6:(0:Int)<=(p:Int):=by omega
   have l7:(p:Int)<=(q:Int):=by omega
   have l8:(q:Int)<=(A.size:Int):=by omega
   have es:(A.extract p q).size=q-p:=by simp;omega
   have hA:=HA.out
   have E2:=hid (z2z (show (V++A.extract p q).size<=6000*k+5000 by rw[ByteArray.size_append,es];omega) (show (V++A.extract p q).data.toList=V.data.toList++(A.extract p q).data.toList by simp))
   have z1:¬9223372036854775807<V.size+(A.extract p q).size:=by rw[es];omega
   have z2:¬9223372036854775807<V.size+(min q A.size-p):=by omega
   have z3:V.size+(A.extract p q).size<=9223372036854775807:=by rw[es];omega
   have z4:V.size+(min q A.size-p)<=9223372036854775807:=by omega
   have HB:=hid hB
   have HC:=hid c
   have HW:=hid hw
   have HK:=hid (z2z hm0 hVs)
   clear s1 hn1 hY1 hm0 hL1 hB hk c u1 u2 xs hw hV hVs es hA
   go_upto_region 12 with fail
   have inst:Nonempty (BW wr):=⟨⟨_,z1z _ _⟩⟩
   have y1:=BW.cell x1
   have y2:=BW.cell x2
   refine wp_region_quiet_below (by kernel_rfl) (by kernel_rfl) ?_
   repeat (go_big_quiet_step (fail))
   refine wpQuiet_nil ?_
   intro _ hw'
   obtain⟨pw,hw''⟩:=hw'
   subst hw''
   clear inst
   replace x1:=y1 pw
   replace x2:=y2 pw
   replace HB:=hid (HB.out.trans (pw.h.mono HB.out.size))
   clear y1 y2
   generalize pw.w'=Wp at *
   clear pw
   go_upto_region 14 with fail
   have inst:Nonempty (BW Wp):=⟨⟨_,z1z _ _⟩⟩
   have y1:=BW.cell x1
   have y2:=BW.cell x2
   refine wp_region_quiet_below (by kernel_rfl) (by kernel_rfl) ?_
   repeat (go_big_quiet_step (fail))
   refine wpQuiet_nil ?_
   intro _ hw'
   obtain⟨pw,hw''⟩:=hw'
   subst hw''
   clear inst y1 y2 x1 x2 z1 z2 z3 z4
   replace HB:=hid (HB.out.trans (pw.h.mono HB.out.size))
   generalize pw.w'=Wq at *
   clear pw
   generalize A.extract p q=E at *
   obtain⟨V2,hV2⟩:∃V2,V++E=V2:=⟨_,rfl⟩
   rw[hV2] at E2 ⊢
   obtain⟨hs2,hd2⟩:=E2.out
   have HS2:=hid hs2
   have HW2:=hid (show wf (Sx' A.data.toList Ys (ksOf zs n)) (k+1) 0=V2.data.toList++insL (ksOf zs n k) by rw[HW.out,hd2,z10z])
   have z1:∀j,j<=14->¬9223372036854775807<V2.size+j:=λj hj=>by have:=HK.out.1;have:=HC.out;omega
   have z5:=z1 1 (by omega)
   have z6:=z1 14 (by omega)
   have z7:=z1 3 (by omega)
   clear hs2 hd2 HW E2 hV2 z1
   have fin:∀ (kk:Nat) (V3:ByteArray),ksOf zs n k=kk->V3.data.toList=V2.data.toList++insL kk->V3.size<=V2.size+14->V3.data.toList=wf (Sx' A.data.toList Ys (ksOf zs n)) (k+1) 0/\V3.size<=6000*(k+1):=λkk V3 e1 e2 e3=>⟨by rw[HW2.out,e1,e2],by have:=HS2.out;omega⟩
   have FIN:=hid fin
   clear fin
   by_cases cn:k<n
   ·have d1:(k:Int)<(n:Int):=by omega
    rcases HR.out with⟨_,rfl,_,_⟩|⟨x,rfl,r1,r2,r3,r4,r5⟩
    ·omega
    have hcx:=r4 k (by omega)
    have hBw:=HS.out.bel.trans (HB.out.mono HS.out.bel.size)
    have hlt:(x.add k).block<w.heap.size:=World.block_lt_of_cell? w _ hcx
    replace hcx:=(hBw.cell (p:=x.add k) hlt).trans hcx
    have hks:ksOf zs n k=(bits .and .i64 (zs.getD k 0) 3).toNat:=if_pos cn
    generalize zs.getD k 0=z at *
    have HKS:=hid hks
    clear r1 r2 r3 r4 r5 hBw hlt hks cn
    by_cases b1:bits .and .i64 z 3=1
    ·have FI:=hid (FIN.out 1 (V2++⟨#[10]⟩) (by rw[HKS.out,b1];rfl) (by rw[insL_one];simp) (by rw[ByteArray.size_append];show V2.size+1<=_;omega))
     go_wp2
     exact⟨⟨k+1,_,rfl,by go_num,by have:=HC.out;omega,FI.out.1,FI.out.2,HB.out⟩,by have:=HC.out;simp[intOf];omega⟩
    ·by_cases b2:bits .and .i64 z 3=2
     ·have FI:=hid (FIN.out 2 (V2++⟨#[10,35,32,34,123,32,114,101,109,97,114,107,10,9]⟩) (by rw[HKS.out,b2];rfl) (by rw[insL_two];simp) (by rw[ByteArray.size_append];show V2.size+14<=_;omega))
      clear b1
      go_wp2
      exact⟨⟨k+1,_,rfl,by go_num,by have:=HC.out;omega,FI.out.1,FI.out.2,HB.out⟩,by have:=HC.out;simp[intOf];omega⟩
     ·by_cases b3:bits .and .i64 z 3=3
      ·have FI:=hid (FIN.out 3 (V2++⟨#[10,32,32]⟩) (by rw[HKS.out,b3];rfl) (by rw[insL_three];simp) (by rw[ByteArray.size_append];show V2.size+3<=_;omega))
       clear b1 b2
       go_wp2
       exact⟨⟨k+1,_,rfl,by go_num,by have:=HC.out;omega,FI.out.1,FI.out.2,HB.out⟩,by have:=HC.out;simp[intOf];omega⟩
      ·have FI:=hid (FIN.out _ V2 HKS.out (by rw[insL_none _ (by omega) (by omega) (by omega),List.append_nil]) (by omega))
       go_wp2
       exact⟨⟨k+1,_,rfl,by go_num,by have:=HC.out;omega,FI.out.1,FI.out.2,HB.out⟩,by have:=HC.out;simp[intOf];omega⟩
   ·have d1:¬ (k:Int)<(n:Int):=by omega
    have FI:=hid (FIN.out 0 V2 (if_neg cn) (by show _=_++[];rw[List.append_nil]) (by omega))
    clear cn
    go_wp2
    exact⟨⟨k+1,_,rfl,by go_num,by have:=HC.out;omega,FI.out.1,FI.out.2,HB.out⟩,by have:=HC.out;simp[intOf];omega⟩
  ·have ek:k=m:=by omega
   subst ek
   have l1:¬ ((k+1:Nat):Int)<(n1:Int):=by omega
   have hS:=HS.out.go hB
   have r1:=R1.out.below hB
   by_cases big:65536<V.size
   ·have cb:=C2.out V hV big
    have g1:(V.size:Int)>65536:=by omega
    clear hV hB hk s1 hVs c hn1 hY1 hm0 hL1 C2 C3 HR
    go_upto_region 24 with(go_at_call 9;(with_reducible refine(cb _ hS.tabs hS.marks).mono ?_);rintro e wn ⟨hb,rfl⟩;(replace hS:=hS.go hb);clear hb)
    have f1:=Blk.new wn #[Value.int .i64 2,Value.int .i64 0] 25
    replace hS:=hS.alloc (Obj.cells #[Value.int .i64 2,Value.int .i64 0] 25)
    generalize z7z wn _=W4 at *
    generalize wn.heap.size=b4 at *
    have q0:=f1.cells 0
    simp at q0
    clear cb
    go_wp2
    go_ret
    exact⟨rfl,hS.bel⟩
   ·have cg:=C3.out V hV big
    clear hV hB hk s1 hVs c hn1 hY1 hm0 hL1 C2 C3 HR big
    go_upto_region 24 with(go_at_call 9;(with_reducible refine(cg _ hS.tabs hS.marks).mono ?_);rintro e wn ⟨hb,g2,k2,rfl,r2⟩;(replace hS:=hS.go hb);(replace r1:=r1.below hb);clear hb)
    have f1:=Blk.new wn #[Value.int .i64 0,Value.int .i64 0] 25
    replace hS:=hS.alloc (Obj.cells #[Value.int .i64 0,Value.int .i64 0] 25)
    replace r1:=r1.below ((z1z _ wn).alloc (z3z _) (Obj.cells #[Value.int .i64 0,Value.int .i64 0] 25))
    replace r2:=r2.below ((z1z _ wn).alloc (z3z _) (Obj.cells #[Value.int .i64 0,Value.int .i64 0] 25))
    generalize z7z wn _=W4 at *
    generalize wn.heap.size=b4 at *
    have q0:=f1.cells 0
    simp at q0
    have HS4:=hid hS
    have P1:=hid r1
    have P2:=hid r2
    clear cg hS r1 r2 f1 l1
    go_wp2_with fail
    clear q0 vk vk2
    go_loopw [11] (λi wq=>∃j:Nat,i=.int .i64 j/\j<=n1/\Below W4.heap.size W4 wq) (λi _=>n1-(intOf i).toNat)
    case atStart=>exact⟨0,rfl,by omega,z1z _ _⟩
    case round=>
     obtain⟨j,rfl,hj,hBq⟩:=hrel
     obtain⟨hn1,hY1,hm0,hL1⟩:=HN.out
     have s1:=P1.out.below hBq
     have s2:=P2.out.below hBq
     by_cases c:j<n1
     ·have jY:j<Ys.length:=by omega
      have jL:j<L.length:=by omega
      obtain⟨a0,a1,a2,a3,a4⟩:=s1.at j jY
      obtain⟨e0,e1,e2,e3,e4⟩:=s2.at j jL
      have z0:=(s1.at 0 (by omega)).2.1
      obtain⟨st,sa⟩:=HSA.out j jY jL
      rw[st] at e0 e2 e3 e4
      rw[HPL.out j jY] at a1
      rw[HPL.out 0 (by omega)] at z0
      have ge:=HGE.out j jY
      have hle:=HLE.out j jY
      have hA:=HA.out
      obtain⟨vd,vd2⟩:=lb_ar2 (pl Ys 0) (pl Ys j) A.size ge hle hA
      obtain⟨vj,vj2⟩:=lb_ar1 j (by omega)
      have nl:¬L[j].a<((pl Ys j-pl Ys 0:Nat):Int):=by omega
      generalize L[j].a=bA at *
      generalize Ys[j].t=y at *
      generalize pl Ys j=pj at *
      generalize pl Ys 0=p0 at *
      generalize hD:pj-p0=D at *
      have l2:(j:Int)<(n1:Int):=by omega
      have l0:(0:Int)<=(j:Int):=by omega
      have l3:(0:Int)<(n1:Int):=by omega
      have g1l:=s1.2.1
      have g2l:=s2.2.1
      have HBq:=hid hBq
      have HC:=hid c
      clear s1 s2 hBq hj c hn1 hY1 hm0 hL1 jY jL st sa ge hle hA hD
      have AA:=hid (z2z a0 (z2z a1 (z2z a2 (z2z a3 a4))))
      have EE:=hid (z2z e0 (z2z e1 (z2z e2 (z2z e3 e4))))
      have ZZ:=hid z0
      clear a0 a1 a2 a3 a4 e0 e1 e2 e3 e4 z0
      go_upto_region 29 with fail
      refine wp_region_held_drew (S:=λw'=>Below wr.heap.size wr w') (by kernel_rfl) (z1z _ wr).drew ?_
      intro hS
      iterate 8 ((refine It.nH 0 ?_ rfl (by kernel_rfl) (λ_ _ _ h=>h) (Or.inl ⟨by rfl,?_⟩) hS ?_);rotate_left;(focus (intro w' hSw;have q0:=(hSw.cell (p:=⟨g1,j*5,none⟩) g1l).trans AA.out.1;have q1:=(hSw.cell (p:=⟨g1,j*5+1,none⟩) g1l).trans AA.out.2.1;have q2:=(hSw.cell (p:=⟨g1,j*5+2,none⟩) g1l).trans AA.out.2.2.1;have q3:=(hSw.cell (p:=⟨g1,j*5+3,none⟩) g1l).trans AA.out.2.2.2.1;have q4:=(hSw.cell (p:=⟨g1,j*5+4,none⟩) g1l).trans AA.out.2.2.2.2;have h0:=(hSw.cell (p:=⟨g2,j*5,none⟩) g2l).trans EE.out.1;have h1:=(hSw.cell (p:=⟨g2,j*5+1,none⟩) g2l).trans EE.out.2.1;have h2:=(hSw.cell (p:=⟨g2,j*5+2,none⟩) g2l).trans EE.out.2.2.1;have h3:=(hSw.cell (p:=⟨g2,j*5+3,none⟩) g2l).trans EE.out.2.2.2.1;have h4:=(hSw.cell (p:=⟨g2,j*5+4,none⟩) g2l).trans EE.out.2.2.2.2;go_simp;(try with_reducible rfl)));(try simp only[Act.put,List.getElem_toArray,List.getElem_cons_zero,List.getElem_cons_succ,List.setIfInBounds_toArray,List.set_cons_zero,List.set_cons_succ]))
      refine wpAnyH_ready (rs:=[8,9]) (by kernel_rfl) (by simp) ?_
      refine z4z rfl (λK hK=>?_) (z4z rfl (λK hK=>?_) z5z)
      ·go_simp
       have za:Below wr.heap.size wr (wr.alloc (Obj.cells #[Value.int .i64 0,Value.int .i64 0,Value.string ⟨#[]⟩,Value.int .i64 0,Value.int .u64 0] 30)).drew:=((z1z _ wr).alloc (z3z _) _).drew
       have zb:(wr.alloc (Obj.cells #[Value.int .i64 0,Value.int .i64 0,Value.string ⟨#[]⟩,Value.int .i64 0,Value.int .u64 0] 30)).drew.heap[wr.heap.size]? = some (Obj.cells #[Value.int .i64 0,Value.int .i64 0,Value.string ⟨#[]⟩,Value.int .i64 0,Value.int .u64 0] 30 (0,0)):=z11z wr _
       have zc:(wr.alloc (Obj.cells #[Value.int .i64 0,Value.int .i64 0,Value.string ⟨#[]⟩,Value.int .i64 0,Value.int .u64 0] 30)).drew.heap.size=wr.heap.size+1:=World.size_alloc ..
       generalize (wr.alloc (Obj.cells #[Value.int .i64 0,Value.int .i64 0,Value.string ⟨#[]⟩,Value.int .i64 0,Value.int .u64 0] 30)).drew=Wa at *
       refine hK.out _ _ za (λ_=>?_)
       clear hK K
       refine wpAnyH_ready (rs:=[9]) (by kernel_rfl) (by simp) ?_
       refine z4z rfl (λK hK=>?_) z5z
       have ZC:=hid zc
       clear zc
       go_simp
       have zd:Below wr.heap.size wr (Wa.alloc (Obj.cells #[Value.int .i64 0,Value.int .i64 0,Value.string ⟨#[]⟩,Value.int .i64 0,Value.int .u64 0] 30)):=za.trans (((z1z _ Wa).alloc (z3z _) _).mono za.size)
       have ze:(Wa.alloc (Obj.cells #[Value.int .i64 0,Value.int .i64 0,Value.string ⟨#[]⟩,Value.int .i64 0,Value.int .u64 0] 30)).heap[wr.heap.size]? = some (Obj.cells #[Value.int .i64 0,Value.int .i64 0,Value.string ⟨#[]⟩,Value.int .i64 0,Value.int .u64 0] 30 (0,0)):=(Below.heap_alloc _ _ _ (by have:=ZC.out;omega)).trans zb
       have zf:(Wa.alloc (Obj.cells #[Value.int .i64 0,Value.int .i64 0,Value.string ⟨#[]⟩,Value.int .i64 0,Value.int .u64 0] 30)).heap[Wa.heap.size]? = some (Obj.cells #[Value.int .i64 0,Value.int .i64 0,Value.string ⟨#[]⟩,Value.int .i64 0,Value.int .u64 0] 30 (0,0)):=z11z Wa _
       generalize z7z Wa _=Wb at *
       refine hK.out _ _ zd (λ_=>?_)
       clear hK K
       have FA:=hid (ze)
       have FB:=hid (zf)
       have ca:=row_cellsX FA.out
       have fa:=row_thawX FA.out
       have ca0:Wb.cell? ⟨wr.heap.size,0,none⟩=some (.int .i64 0):=ca 0
       have ca1:Wb.cell? ⟨wr.heap.size,1,none⟩=some (.int .i64 0):=ca 1
       have ca2:Wb.cell? ⟨wr.heap.size,2,none⟩=some (.string ⟨#[]⟩):=ca 2
       have ca3:Wb.cell? ⟨wr.heap.size,3,none⟩=some (.int .i64 0):=ca 3
       have ca4:Wb.cell? ⟨wr.heap.size,4,none⟩=some (.int .u64 0):=ca 4
       have ZD:=hid zd
       clear za zb zd ze zf ca
       refine wpAnyH_ready (rs:=[10]) (by kernel_rfl) (by simp) ?_
       refine z4z rfl (λK hK=>?_) z5z
       go_simp
       have sa:=five_setX FA.out (.int .i64 y.kind) (.int .i64 (pj:Int)) (.string y.text) (.int .i64 y.int) (.int .u64 y.bits)
       have sb:=five_belowX ZD.out (gb:=wr.heap.size) (by have:=ZC.out;omega) (.int .i64 y.kind) (.int .i64 (pj:Int)) (.string y.text) (.int .i64 y.int) (.int .u64 y.bits)
       have sc:(((((Wb.setCell ⟨wr.heap.size,0,none⟩ (.int .i64 y.kind)).setCell ⟨wr.heap.size,1,none⟩ (.int .i64 (pj:Int))).setCell ⟨wr.heap.size,2,none⟩ (.string y.text)).setCell ⟨wr.heap.size,3,none⟩ (.int .i64 y.int)).setCell ⟨wr.heap.size,4,none⟩ (.int .u64 y.bits)).heap[Wa.heap.size]? = some (Obj.cells #[Value.int .i64 0,Value.int .i64 0,Value.string ⟨#[]⟩,Value.int .i64 0,Value.int .u64 0] 30 (0,0)):=((((z0z _ _ _ _ (by have:=ZC.out;show Wa.heap.size≠wr.heap.size;omega)).trans (z0z _ _ _ _ (by have:=ZC.out;show Wa.heap.size≠wr.heap.size;omega))).trans (z0z _ _ _ _ (by have:=ZC.out;show Wa.heap.size≠wr.heap.size;omega))).trans (z0z _ _ _ _ (by have:=ZC.out;show Wa.heap.size≠wr.heap.size;omega))).trans ((z0z _ _ _ _ (by have:=ZC.out;show Wa.heap.size≠wr.heap.size;omega)).trans FB.out)
       generalize ((((Wb.setCell ⟨wr.heap.size,0,none⟩ (.int .i64 y.kind)).setCell ⟨wr.heap.size,1,none⟩ (.int .i64 (pj:Int))).setCell ⟨wr.heap.size,2,none⟩ (.string y.text)).setCell ⟨wr.heap.size,3,none⟩ (.int .i64 y.int)).setCell ⟨wr.heap.size,4,none⟩ (.int .u64 y.bits)=Wc at *
       refine hK.out _ _ sb (λ_=>?_)
       clear hK K
       replace FA:=hid sa
       replace FB:=hid sc
       replace ZD:=hid sb
       have cb:=row_cellsX FB.out
       have fb:=row_thawX FB.out
       have cb0:Wc.cell? ⟨Wa.heap.size,0,none⟩=some (.int .i64 0):=cb 0
       have cb1:Wc.cell? ⟨Wa.heap.size,1,none⟩=some (.int .i64 0):=cb 1
       have cb2:Wc.cell? ⟨Wa.heap.size,2,none⟩=some (.string ⟨#[]⟩):=cb 2
       have cb3:Wc.cell? ⟨Wa.heap.size,3,none⟩=some (.int .i64 0):=cb 3
       have cb4:Wc.cell? ⟨Wa.heap.size,4,none⟩=some (.int .u64 0):=cb 4
       clear sa sb sc ca0 ca1 ca2 ca3 ca4 fa cb
       refine wpAnyH_ready (rs:=[11]) (by kernel_rfl) (by simp) ?_
       refine z4z rfl (λK hK=>?_) z5z
       go_simp
       have sa:=five_setX FB.out (.int .i64 y.kind) (.int .i64 bA) (.string y.text) (.int .i64 y.int) (.int .u64 y.bits)
       have sb:=five_belowX ZD.out (gb:=Wa.heap.size) (by have:=ZC.out;omega) (.int .i64 y.kind) (.int .i64 bA) (.string y.text) (.int .i64 y.int) (.int .u64 y.bits)
       have sc:(((((Wc.setCell ⟨Wa.heap.size,0,none⟩ (.int .i64 y.kind)).setCell ⟨Wa.heap.size,1,none⟩ (.int .i64 bA)).setCell ⟨Wa.heap.size,2,none⟩ (.string y.text)).setCell ⟨Wa.heap.size,3,none⟩ (.int .i64 y.int)).setCell ⟨Wa.heap.size,4,none⟩ (.int .u64 y.bits)).heap[wr.heap.size]? = some (.cells #[.int .i64 y.kind,.int .i64 (pj:Int),.string y.text,.int .i64 y.int,.int .u64 y.bits] 30 (0,0)):=((((z0z _ _ _ _ (by have:=ZC.out;show wr.heap.size≠Wa.heap.size;omega)).trans (z0z _ _ _ _ (by have:=ZC.out;show wr.heap.size≠Wa.heap.size;omega))).trans (z0z _ _ _ _ (by have:=ZC.out;show wr.heap.size≠Wa.heap.size;omega))).trans (z0z _ _ _ _ (by have:=ZC.out;show wr.heap.size≠Wa.heap.size;omega))).trans ((z0z _ _ _ _ (by have:=ZC.out;show wr.heap.size≠Wa.heap.size;omega)).trans FA.out)
       generalize ((((Wc.setCell ⟨Wa.heap.size,0,none⟩ (.int .i64 y.kind)).setCell ⟨Wa.heap.size,1,none⟩ (.int .i64 bA)).setCell ⟨Wa.heap.size,2,none⟩ (.string y.text)).setCell ⟨Wa.heap.size,3,none⟩ (.int .i64 y.int)).setCell ⟨Wa.heap.size,4,none⟩ (.int .u64 y.bits)=Wd at *
       refine hK.out _ _ sb (λ_=>?_)
       clear hK K
       refine wpAnyH_done (by kernel_rfl) ?_ _
       have HBd:=hid (HBq.out.trans (sb.mono HBq.out.size))
       have x0:=BW.cell (show Wd.cell? ⟨wr.heap.size,0,none⟩=some (.int .i64 y.kind) from row_cellsX sc 0)
       have x1:=BW.cell (show Wd.cell? ⟨wr.heap.size,1,none⟩=some (.int .i64 (pj:Int)) from row_cellsX sc 1)
       have x2:=BW.cell (show Wd.cell? ⟨wr.heap.size,2,none⟩=some (.string y.text) from row_cellsX sc 2)
       have x3:=BW.cell (show Wd.cell? ⟨wr.heap.size,3,none⟩=some (.int .i64 y.int) from row_cellsX sc 3)
       have x4:=BW.cell (show Wd.cell? ⟨wr.heap.size,4,none⟩=some (.int .u64 y.bits) from row_cellsX sc 4)
       have z0:=BW.cell (show Wd.cell? ⟨Wa.heap.size,0,none⟩=some (.int .i64 y.kind) from row_cellsX sa 0)
       have z1:=BW.cell (show Wd.cell? ⟨Wa.heap.size,1,none⟩=some (.int .i64 bA) from row_cellsX sa 1)
       have z2:=BW.cell (show Wd.cell? ⟨Wa.heap.size,2,none⟩=some (.string y.text) from row_cellsX sa 2)
       have z3:=BW.cell (show Wd.cell? ⟨Wa.heap.size,3,none⟩=some (.int .i64 y.int) from row_cellsX sa 3)
       have z4:=BW.cell (show Wd.cell? ⟨Wa.heap.size,4,none⟩=some (.int .u64 y.bits) from row_cellsX sa 4)
       have p1:=BW.cell (show Wd.cell? ⟨g1,1,none⟩=some (.int .i64 (p0:Int)) from(sb.cell (p:=⟨g1,1,none⟩) g1l).trans ZZ.out)
       clear sa sb sc FA FB ZD cb0 cb1 cb2 cb3 cb4 fb ZC hS
       go_upto_region 30 with fail
       have inst:Nonempty (BW Wd):=⟨⟨_,z1z _ _⟩⟩
       refine wp_region_quiet_below (by kernel_rfl) (by kernel_rfl) ?_
       repeat (go_big_quiet_step (fail))
       refine wpQuiet_nil ?_
       intro _ hw'
       obtain⟨pw,hw''⟩:=hw'
       subst hw''
       clear x0 x1 x2 x3 x4 z0 z1 z2 z3 z4 p1 inst
       go_wp2
       go_roundw
       case rel=>exact⟨j+1,by go_num,HC.out,HBd.out.trans (pw.h.mono HBd.out.size)⟩
       case measure=>have:=HC.out;simp[intOf];omega
      ·go_simp
       have za:Below wr.heap.size wr (wr.alloc (Obj.cells #[Value.int .i64 0,Value.int .i64 0,Value.string ⟨#[]⟩,Value.int .i64 0,Value.int .u64 0] 30)).drew:=((z1z _ wr).alloc (z3z _) _).drew
       have zb:(wr.alloc (Obj.cells #[Value.int .i64 0,Value.int .i64 0,Value.string ⟨#[]⟩,Value.int .i64 0,Value.int .u64 0] 30)).drew.heap[wr.heap.size]? = some (Obj.cells #[Value.int .i64 0,Value.int .i64 0,Value.string ⟨#[]⟩,Value.int .i64 0,Value.int .u64 0] 30 (0,0)):=z11z wr _
       have zc:(wr.alloc (Obj.cells #[Value.int .i64 0,Value.int .i64 0,Value.string ⟨#[]⟩,Value.int .i64 0,Value.int .u64 0] 30)).drew.heap.size=wr.heap.size+1:=World.size_alloc ..
       generalize (wr.alloc (Obj.cells #[Value.int .i64 0,Value.int .i64 0,Value.string ⟨#[]⟩,Value.int .i64 0,Value.int .u64 0] 30)).drew=Wa at *
       refine hK.out _ _ za (λ_=>?_)
       clear hK K
       refine wpAnyH_ready (rs:=[8]) (by kernel_rfl) (by simp) ?_
       refine z4z rfl (λK hK=>?_) z5z
       have ZC:=hid zc
       clear zc
       go_simp
       have zd:Below wr.heap.size wr (Wa.alloc (Obj.cells #[Value.int .i64 0,Value.int .i64 0,Value.string ⟨#[]⟩,Value.int .i64 0,Value.int .u64 0] 30)):=za.trans (((z1z _ Wa).alloc (z3z _) _).mono za.size)
       have ze:(Wa.alloc (Obj.cells #[Value.int .i64 0,Value.int .i64 0,Value.string ⟨#[]⟩,Value.int .i64 0,Value.int .u64 0] 30)).heap[wr.heap.size]? = some (Obj.cells #[Value.int .i64 0,Value.int .i64 0,Value.string ⟨#[]⟩,Value.int .i64 0,Value.int .u64 0] 30 (0,0)):=(Below.heap_alloc _ _ _ (by have:=ZC.out;omega)).trans zb
       have zf:(Wa.alloc (Obj.cells #[Value.int .i64 0,Value.int .i64 0,Value.string ⟨#[]⟩,Value.int .i64 0,Value.int .u64 0] 30)).heap[Wa.heap.size]? = some (Obj.cells #[Value.int .i64 0,Value.int .i64 0,Value.string ⟨#[]⟩,Value.int .i64 0,Value.int .u64 0] 30 (0,0)):=z11z Wa _
       generalize z7z Wa _=Wb at *
       refine hK.out _ _ zd (λ_=>?_)
       clear hK K
       have FA:=hid (zf)
       have FB:=hid (ze)
       have ca:=row_cellsX FA.out
       have fa:=row_thawX FA.out
       have ca0:Wb.cell? ⟨Wa.heap.size,0,none⟩=some (.int .i64 0):=ca 0
       have ca1:Wb.cell? ⟨Wa.heap.size,1,none⟩=some (.int .i64 0):=ca 1
       have ca2:Wb.cell? ⟨Wa.heap.size,2,none⟩=some (.string ⟨#[]⟩):=ca 2
       have ca3:Wb.cell? ⟨Wa.heap.size,3,none⟩=some (.int .i64 0):=ca 3
       have ca4:Wb.cell? ⟨Wa.heap.size,4,none⟩=some (.int .u64 0):=ca 4
       have ZD:=hid zd
       clear za zb zd ze zf ca
       refine wpAnyH_ready (rs:=[10]) (by kernel_rfl) (by simp) ?_
       refine z4z rfl (λK hK=>?_) z5z
       go_simp
       have sa:=five_setX FA.out (.int .i64 y.kind) (.int .i64 (pj:Int)) (.string y.text) (.int .i64 y.int) (.int .u64 y.bits)
       have sb:=five_belowX ZD.out (gb:=Wa.heap.size) (by have:=ZC.out;omega) (.int .i64 y.kind) (.int .i64 (pj:Int)) (.string y.text) (.int .i64 y.int) (.int .u64 y.bits)
       have sc:(((((Wb.setCell ⟨Wa.heap.size,0,none⟩ (.int .i64 y.kind)).setCell ⟨Wa.heap.size,1,none⟩ (.int .i64 (pj:Int))).setCell ⟨Wa.heap.size,2,none⟩ (.string y.text)).setCell ⟨Wa.heap.size,3,none⟩ (.int .i64 y.int)).setCell ⟨Wa.heap.size,4,none⟩ (.int .u64 y.bits)).heap[wr.heap.size]? = some (Obj.cells #[Value.int .i64 0,Value.int .i64 0,Value.string ⟨#[]⟩,Value.int .i64 0,Value.int .u64 0] 30 (0,0)):=((((z0z _ _ _ _ (by have:=ZC.out;show wr.heap.size≠Wa.heap.size;omega)).trans (z0z _ _ _ _ (by have:=ZC.out;show wr.heap.size≠Wa.heap.size;omega))).trans (z0z _ _ _ _ (by have:=ZC.out;show wr.heap.size≠Wa.heap.size;omega))).trans (z0z _ _ _ _ (by have:=ZC.out;show wr.heap.size≠Wa.heap.size;omega))).trans ((z0z _ _ _ _ (by have:=ZC.out;show wr.heap.size≠Wa.heap.size;omega)).trans FB.out)
       generalize ((((Wb.setCell ⟨Wa.heap.size,0,none⟩ (.int .i64 y.kind)).setCell ⟨Wa.heap.size,1,none⟩ (.int .i64 (pj:Int))).setCell ⟨Wa.heap.size,2,none⟩ (.string y.text)).setCell ⟨Wa.heap.size,3,none⟩ (.int .i64 y.int)).setCell ⟨Wa.heap.size,4,none⟩ (.int .u64 y.bits)=Wc at *
       refine hK.out _ _ sb (λ_=>?_)
       clear hK K
       replace FA:=hid sa
       replace FB:=hid sc
       replace ZD:=hid sb
       have cb:=row_cellsX FB.out
       have fb:=row_thawX FB.out
       have cb0:Wc.cell? ⟨wr.heap.size,0,none⟩=some (.int .i64 0):=cb 0
       have cb1:Wc.cell? ⟨wr.heap.size,1,none⟩=some (.int .i64 0):=cb 1
       have cb2:Wc.cell? ⟨wr.heap.size,2,none⟩=some (.string ⟨#[]⟩):=cb 2
       have cb3:Wc.cell? ⟨wr.heap.size,3,none⟩=some (.int .i64 0):=cb 3
       have cb4:Wc.cell? ⟨wr.heap.size,4,none⟩=some (.int .u64 0):=cb 4
       clear sa sb sc ca0 ca1 ca2 ca3 ca4 fa cb
       refine wpAnyH_ready (rs:=[11]) (by kernel_rfl) (by simp) ?_
       refine z4z rfl (λK hK=>?_) z5z
       go_simp
       have sa:=five_setX FB.out (.int .i64 y.kind) (.int .i64 bA) (.string y.text) (.int .i64 y.int) (.int .u64 y.bits)
       have sb:=five_belowX ZD.out (gb:=wr.heap.size) (by have:=ZC.out;omega) (.int .i64 y.kind) (.int .i64 bA) (.string y.text) (.int .i64 y.int) (.int .u64 y.bits)
       have sc:(((((Wc.setCell ⟨wr.heap.size,0,none⟩ (.int .i64 y.kind)).setCell ⟨wr.heap.size,1,none⟩ (.int .i64 bA)).setCell ⟨wr.heap.size,2,none⟩ (.string y.text)).setCell ⟨wr.heap.size,3,none⟩ (.int .i64 y.int)).setCell ⟨wr.heap.size,4,none⟩ (.int .u64 y.bits)).heap[Wa.heap.size]? = some (.cells #[.int .i64 y.kind,.int .i64 (pj:Int),.string y.text,.int .i64 y.int,.int .u64 y.bits] 30 (0,0)):=((((z0z _ _ _ _ (by have:=ZC.out;show Wa.heap.size≠wr.heap.size;omega)).trans (z0z _ _ _ _ (by have:=ZC.out;show Wa.heap.size≠wr.heap.size;omega))).trans (z0z _ _ _ _ (by have:=ZC.out;show Wa.heap.size≠wr.heap.size;omega))).trans (z0z _ _ _ _ (by have:=ZC.out;show Wa.heap.size≠wr.heap.size;omega))).trans ((z0z _ _ _ _ (by have:=ZC.out;show Wa.heap.size≠wr.heap.size;omega)).trans FA.out)
       generalize ((((Wc.setCell ⟨wr.heap.size,0,none⟩ (.int .i64 y.kind)).setCell ⟨wr.heap.size,1,none⟩ (.int .i64 bA)).setCell ⟨wr.heap.size,2,none⟩ (.string y.text)).setCell ⟨wr.heap.size,3,none⟩ (.int .i64 y.int)).setCell ⟨wr.heap.size,4,none⟩ (.int .u64 y.bits)=Wd at *
       refine hK.out _ _ sb (λ_=>?_)
       clear hK K
       refine wpAnyH_done (by kernel_rfl) ?_ _
       have HBd:=hid (HBq.out.trans (sb.mono HBq.out.size))
       have x0:=BW.cell (show Wd.cell? ⟨Wa.heap.size,0,none⟩=some (.int .i64 y.kind) from row_cellsX sc 0)
       have x1:=BW.cell (show Wd.cell? ⟨Wa.heap.size,1,none⟩=some (.int .i64 (pj:Int)) from row_cellsX sc 1)
       have x2:=BW.cell (show Wd.cell? ⟨Wa.heap.size,2,none⟩=some (.string y.text) from row_cellsX sc 2)
       have x3:=BW.cell (show Wd.cell? ⟨Wa.heap.size,3,none⟩=some (.int .i64 y.int) from row_cellsX sc 3)
       have x4:=BW.cell (show Wd.cell? ⟨Wa.heap.size,4,none⟩=some (.int .u64 y.bits) from row_cellsX sc 4)
       have z0:=BW.cell (show Wd.cell? ⟨wr.heap.size,0,none⟩=some (.int .i64 y.kind) from row_cellsX sa 0)
       have z1:=BW.cell (show Wd.cell? ⟨wr.heap.size,1,none⟩=some (.int .i64 bA) from row_cellsX sa 1)
       have z2:=BW.cell (show Wd.cell? ⟨wr.heap.size,2,none⟩=some (.string y.text) from row_cellsX sa 2)
       have z3:=BW.cell (show Wd.cell? ⟨wr.heap.size,3,none⟩=some (.int .i64 y.int) from row_cellsX sa 3)
       have z4:=BW.cell (show Wd.cell? ⟨wr.heap.size,4,none⟩=some (.int .u64 y.bits) from row_cellsX sa 4)
       have p1:=BW.cell (show Wd.cell? ⟨g1,1,none⟩=some (.int .i64 (p0:Int)) from(sb.cell (p:=⟨g1,1,none⟩) g1l).trans ZZ.out)
       clear sa sb sc FA FB ZD cb0 cb1 cb2 cb3 cb4 fb ZC hS
       go_upto_region 30 with fail
       have inst:Nonempty (BW Wd):=⟨⟨_,z1z _ _⟩⟩
       refine wp_region_quiet_below (by kernel_rfl) (by kernel_rfl) ?_
       repeat (go_big_quiet_step (fail))
       refine wpQuiet_nil ?_
       intro _ hw'
       obtain⟨pw,hw''⟩:=hw'
       subst hw''
       clear x0 x1 x2 x3 x4 z0 z1 z2 z3 z4 p1 inst
       go_wp2
       go_roundw
       case rel=>exact⟨j+1,by go_num,HC.out,HBd.out.trans (pw.h.mono HBd.out.size)⟩
       case measure=>have:=HC.out;simp[intOf];omega
     ·have l2:¬ (j:Int)<(n1:Int):=by omega
      have hS:=HS4.out.go hBq
      clear s1 s2 hBq hj c hn1 hY1 hm0 hL1
      go_wp2_with (go_at_call 12;refine(awake11_c _ hS.tabs hS.marks).mono ?_;rintro e wn ⟨rfl,hb⟩;(replace hS:=hS.go hb);clear hb)
      go_ret
      exact⟨rfl,hS.bel⟩
theorem ins_len(k:Nat):(insL k).length<=14:=by
 by_cases h1:k=1
 ·subst h1;decide
 ·by_cases h2:k=2
  ·subst h2;decide
  ·by_cases h3:k=3
   ·subst h3;decide
   ·rw[insL_none k h1 h2 h3];decide
theorem wf_len(src:List UInt8)(Ys:List Yd)(hT:T src 0=Ys)(hc:∀y ∈ Ys,y.c=0)(ks:Nat->Nat):∀ (d i:Nat),i+d+1=Ys.length->(wf (Sx' src Ys ks) d i).length+pl Ys i<=pl Ys (i+d)+14*d
 | 0,i,h=>by
  show 0+pl Ys i<=pl Ys (i+0)+14*0
  have e:i+0=i:=rfl
  rw[e];omega
 | d+1,i,h=>by
  obtain⟨x,g,s⟩:=stepY src Ys hT hc i (by omega)
  have ih:=wf_len src Ys hT hc ks d (i+1) (by omega)
  have il:=ins_len (ks i)
  have nx:=s.nx
  have e:(wf (Sx' src Ys ks) (d+1) i).length=x.length+g.length+(insL (ks i)).length+(wf (Sx' src Ys ks) d (i+1)).length:=by
   show ((seg src Ys i++insL (ks i))++wf (Sx' src Ys ks) d (i+1)).length=_
   rw[s.sg]
   simp
   omega
  have e2:i+1+d=i+(d+1):=by omega
  rw[e2] at ih
  omega
theorem getD_at(L:List Yd)(k:Nat)(h:k<L.length):L.getD k y0=L[k]:=by rw[z16z,z13z h];rfl
theorem lexBlanks_walk(A:ByteArray)(o:Option Addr)(n cap:Nat)(zs:List Int)(wa:A.size<=maxLen)(w:World)(hrow:IsRow .i64 w o n cap zs)(ht:Tabs w)(hm:MarksIn w) :
  Calls prog 5 #[.string A,.slice o n cap] w λe w'=>e=.returned (.bool true)/\Below w.heap.size w w':=by
 by_cases cA:5000<A.size
 ·exact lexBlanks_long A cA o n cap w
 have hA:A.size<=5000:=by omega
 have lA:=size_list A
 have sA:srcY A.data.toList=T A.data.toList 0:=src_T _ (by omega)
 obtain⟨ts,z,hT,hts,hz⟩:=T_form _ A.data.toList 0 (z3z _)
 rcases hz with hz|⟨z1,z2,z3,z4⟩
 ·obtain⟨Ys,hYs⟩:∃Ys,ts++[z]=Ys:=⟨_,rfl⟩
  rw[hYs] at hT
  have hc:∀y ∈ Ys,y.c=0:=by
   intro y hy
   rw[<- hYs] at hy
   rcases List.mem_append.1 hy with hy|hy
   ·exact(hts y hy).1
   ·simp only[List.mem_singleton] at hy
    rw[hy,hz]
  have hlen:Ys.length=ts.length+1:=by rw[<- hYs];simp
  have hXl:ts.length+1<=A.size+1:=by
   have:=srcY_len A.data.toList
   rw[sA,hT,hlen,lA] at this
   exact this
  have hm':ts.length<Ys.length:=by omega
  have hlast:Ys[ts.length]=z:=by
   have:Ys[ts.length]? = some z:=by rw[<- hYs];simp
   rw[z13z hm'] at this
   exact Option.some.inj this
  have hlD:Ys.getD (Ys.length-1) y0=z:=by
   have e:Ys.length-1=ts.length:=by omega
   rw[e,getD_at _ _ hm',hlast]
  have hP:=places A.data.toList Ys hT hc
  have hend:pl Ys (Ys.length-1)=A.data.toList.length:=by
   unfold pl
   rw[hlD,hz]
   show (((0+A.data.toList.length:Nat):Int)).toNat=_
   rw[Int.toNat_natCast];omega
  obtain⟨L,h1,h2,h3,_,_⟩:=wide_T A.data.toList Ys hT hc (by rw[hlD,hz]) hend (ksOf zs n) ts.length 0 0 (by omega)
  have hwl:=wf_len A.data.toList Ys hT hc (ksOf zs n) ts.length 0 (by omega)
  have hple:=(hP ts.length hm').le
  rw[z8z] at hwl
  have hcL:∀y ∈ L,y.c=0:=by
   intro y hy
   obtain⟨j,hj,rfl⟩:=List.getElem_of_mem hy
   have:=(h3 j (by omega)).2.1
   rwa [getD_at L j hj] at this
  refine lexBlanks_good A hA o n cap zs Ys L ts.length (ts.length+1) rfl hlen (by omega) h2 ?_ ?_ ?_ ?_ ?_ ?_ w hrow ht hm ?_ ?_ ?_
  ·intro h;rw[hlast,hz];rfl
  ·intro k h
   have:=(hP k h).a
   rwa [getD_at Ys k h] at this
  ·intro k h
   obtain⟨x,g,s⟩:=stepY A.data.toList Ys hT hc k h
   have:=s.nx
   have:=List.length_pos_iff.2 s.ne
   omega
  ·intro k h
   have:=(hP k h).le
   omega
  ·intro k h h'
   obtain⟨a1,a2,a3,a4,a5⟩:=h3 k (by omega)
   rw[z8z,getD_at L k h',getD_at Ys k h] at a1
   rw[z8z,z8z,getD_at L k h'] at a4
   exact⟨a1,a4⟩
  ·intro k h
   have:=(h3 k (by omega)).2.2.1
   rwa [z8z] at this
  ·intro w ht hm
   have:=all_good A (by omega) Ys (by rw[sA,hT]) hc (by omega) w ht hm
   rw[hlen] at this
   exact this
  ·intro V hV big w ht hm
   have hVl:V.size=(wf (Sx' A.data.toList Ys (ksOf zs n)) ts.length 0).length:=by rw[<- hV,size_list]
   refine all_bad V (by omega) ⟨noTk,0,2,0⟩ ?_ w ht hm
   unfold srcY
   rw[if_pos (by rw[size_list];exact big)]
   rfl
  ·intro V hV big w ht hm
   have hVl:V.size=(wf (Sx' A.data.toList Ys (ksOf zs n)) ts.length 0).length:=by rw[<- hV,size_list]
   have:=all_good V (by omega) L (by rw[src_T _ (by rw[size_list];omega),hV,h1]) hcL (by omega) w ht hm
   rw[h2] at this
   exact this
 ·exact lexBlanks_bad A hA o n cap z.c z.f z1 w ht hm (λw ht hm=>all_bad A (by omega) z (by rw[sA,hT];exact find_last ts z (λy hy=>(hts y hy).1) z1) w ht hm)
end Go.Proofs.YtknkedihmmbanaaDoor.W
