import Derived.Test.YtjplieobnknnpaaGreatDoorKW
import Derived.Test.YtjplieobnknnpaaGreatDoorKI
import Derived.Test.YtjplieobnknnpaaGreatDoorKA
import Derived.Test.YtjplieobnknnpaaGreatDoorJM
import Derived.Test.YtjplieobnknnpaaGreatDoorJS
import Derived.Test.YtjplieobnknnpaaGreatDoorJO
import Derived.Test.YtjplieobnknnpaaGreatDoorJP
open List renaming length_drop → z0z, cons_append → z1z, length_cons → z2z, length_nil → z3z, mem_cons → z5z, length_append → z6z, replicate_succ → z8z, drop_append_of_le_length → z9z, nil_append → z12z, take_append_drop → z13z, length_take → z14z, drop_succ_cons → z15z, eq_nil_of_length_eq_zero → z16z, suffix_refl → z17z, append_assoc → z18z, mem_singleton → z21z, find?_eq_some_iff_append → z22z
open Nat renaming le_refl → z4z, le_trans → z7z, add_eq_zero_iff → z19z, one_ne_zero → z20z
open Bool renaming false_eq_true → z11z
open Int renaming le_refl → z10z
set_option maxRecDepth 1000000
set_option maxHeartbeats 8000000
namespace Go.Proofs.YtjplieobnknnpaaGreatDoor.W.Tr
set_option linter.unusedVariables false
set_option linter.unusedSimpArgs false
theorem XK(s:ByteArray):isK s=(s.data.toList==[]):=by unfold isK;rw[ByteArray.toList_eq]
theorem Ms(b:UInt8)(l:List UInt8):isK ⟨(b::l).toArray⟩=false:=by rw[XK];simp
theorem MB:isK tK=true:=by kernel_rfl
theorem QZ(l:List UInt8):(⟨l.toArray⟩:ByteArray).size=l.length:=rfl
theorem P9(a b:List ByteArray):Em (a++b)=Em a+Em b:=by simp[Em]
theorem QX:Em []=0:=rfl
theorem Qd:∀n,Em (BZ n [tK])=n
 | 0=>rfl
 | n+1=>by
  have e:BZ (n+1) [tK]=tK::BZ n [tK]:=by simp[BZ,z8z]
  rw[e,JI,MB,Qd n]
  simp;omega
theorem Xw:∀n,Em (BZ n [tK,⟨#[44]⟩])=n
 | 0=>rfl
 | n+1=>by
  have e:BZ (n+1) [tK,⟨#[44]⟩]=tK::⟨#[44]⟩::BZ n [tK,⟨#[44]⟩]:=by simp[BZ,z8z]
  rw[e,JI,JI,MB,Ms,Xw n]
  simp;omega
theorem TV(n:Nat):Em (G6 n)=n:=by
 unfold G6
 split
 ·rename_i h;rw[h];rfl
 ·rw[P9,Xw,JI,MB]
  simp[QX];omega
theorem Pj:∀n,Dl (BZ n [tK])=n
 | 0=>rfl
 | n+1=>by
  have e:BZ (n+1) [tK]=tK::BZ n [tK]:=by simp[BZ,z8z]
  rw[e,IX,Pj n]
  show 0+1+n=n+1
  omega
theorem Ws:∀n,Dl (BZ n [tK,⟨#[44]⟩])=3*n
 | 0=>rfl
 | n+1=>by
  have e:BZ (n+1) [tK,⟨#[44]⟩]=tK::⟨#[44]⟩::BZ n [tK,⟨#[44]⟩]:=by simp[BZ,z8z]
  rw[e,IX,IX,Ws n]
  show 0+1+(1+1+3*n)=3*(n+1)
  omega
theorem MJ(n:Nat):Dl (G6 n)<=3*n:=by
 unfold G6
 split
 ·rename_i h;rw[h];exact z4z _
 ·rw[Nb,Ws]
  show 3*(n-1)+1<=_
  omega
theorem SG:Dl []=0:=rfl
theorem Tq:tK.size=0:=rfl
theorem yR{t:ByteArray}(h:nameP t=true):isK t=false:=by
 cases e:isK t
 ·rfl
 ·exfalso
  rw[XK] at e
  have e':t.data.toList=[]:=eq_of_beq e
  unfold nameP at h
  rw[e'] at h
  have:Au []=[⟨Eo,0,0,0⟩]:=by kernel_rfl
  rw[this] at h
  cases h
theorem uZ{what:Int}{t:ByteArray}(h:D9 what t=true)(hw:what=1\/what=3\/what=4):isK t=false:=by
 unfold D9 at h
 rcases hw with rfl|rfl|rfl
 ·rw[if_pos rfl] at h
  exact yR h
 ·cases e:isK t
  ·rfl
  ·exfalso
   have e':t=⟨#[]⟩:=by
    have:=Av t []
    rw[show (t.toList==[])=true from e] at this
    exact of_decide_eq_true this
   subst e'
   revert h
   simp only[Int.reduceEq,if_false,if_true]
   decide
 ·cases e:isK t
  ·rfl
  ·exfalso
   have e':t=⟨#[]⟩:=by
    have:=Av t []
    rw[show (t.toList==[])=true from e] at this
    exact of_decide_eq_true this
   subst e'
   have:D9 4 ⟨#[]⟩=false:=by kernel_rfl
   unfold D9 at this
   rw[this] at h
   cases h
theorem jS(l:List UInt8):(l.flatMap Di).length<=4*l.length:=YW l
theorem rZ(t:ByteArray):(JA t).size<=4*t.size+2/\isK (JA t)=false:=by
 have h:=jS t.data.toList
 have e:t.data.toList.length=t.size:=by simp
 refine⟨?_,?_⟩
 ·unfold JA
  rw[QZ,z6z,z6z]
  simp only[z2z,z3z]
  omega
 ·unfold JA
  exact Ms _ _
theorem XJ(b:Bool)(i u:Int)(hi:-9223372036854775808<=i/\i<=9223372036854775807)(hu:0<=u/\u<18446744073709551616):(⟨(KH b i u).toArray⟩:ByteArray).size<=64/\isK ⟨(KH b i u).toArray⟩=false:=by
 obtain⟨_,h1,h2⟩:=ABy b i u hi.1 hi.2 hu.1 hu.2
 refine⟨h2,?_⟩
 cases h:KH b i u with
 | nil=>rw[h] at h1;cases h1
 | cons c l=>exact Ms _ _
def RP(c:Nat)(ts:List ByteArray):Prop:=Em ts=c/\ts.length<=2*c+8/\Dl ts<=3*c+24200
theorem tH(k:Int)(c:Nat)(t x:ByteArray)(hk:1<=k/\k<=31)(h1:(CZ k).least<=(c:Nat))(h2:((c:Nat):Int)<=(CZ k).most)(ht:D9 (CZ k).text t=true)(hs:t.size<=6000)(hx:x.size<=24002)(hX:isK x=false):RP c (Qf k c t x):=by
 have hT:=uZ ht
 have:k=1\/k=2\/k=3\/k=4\/k=5\/k=6\/k=7\/k=8\/k=9\/k=10\/k=11\/k=12\/k=13\/k=14\/k=15\/k=16\/k=17\/k=18\/k=19\/k=20\/k=21\/k=22\/k=23\/k=24\/k=25\/k=26\/k=27\/k=28\/k=29\/k=30\/k=31:=by omega
 clear hk ht
 rcases this with rfl|rfl|rfl|rfl|rfl|rfl|rfl|rfl|rfl|rfl|rfl|rfl|rfl|rfl|rfl|rfl|rfl|rfl|rfl|rfl|rfl|rfl|rfl|rfl|rfl|rfl|rfl|rfl|rfl|rfl|rfl
 all_goals (simp only[Qf,CZ,Int.reduceEq,reduceIte,true_or,or_true,or_self,forall_const,false_implies] at *)
 all_goals (first|((refine⟨?_,?_,?_⟩;(simp only[JI,P9,QX,Qd,TV,Ms,MB,hT,hX,z11z,if_false,if_true] <;> omega);(simp only[z2z,z6z,z3z,Jh];(try have:=KC c);(try have:=KC (c-1));omega);(simp only[IX,Nb,SG,Pj,QZ,Tq,z2z,z3z];(try have:=MJ c);(try have:=MJ (c-1));omega));done)|skip)
 all_goals (split <;> rename_i hq <;> (first|((refine⟨?_,?_,?_⟩;(simp only[JI,P9,QX,Qd,TV,Ms,MB,hT,hX,z11z,if_false,if_true] <;> omega);(simp only[z2z,z6z,z3z,Jh];(try have:=KC c);(try have:=KC (c-1));omega);(simp only[IX,Nb,SG,Pj,QZ,Tq,z2z,z3z];(try have:=MJ c);(try have:=MJ (c-1));omega));done)|(have hT:isK t=false:=Bool.eq_false_iff.2 hq;(refine⟨?_,?_,?_⟩;(simp only[JI,P9,QX,Qd,TV,Ms,MB,hT,hX,z11z,if_false,if_true] <;> omega);(simp only[z2z,z6z,z3z,Jh];(try have:=KC c);(try have:=KC (c-1));omega);(simp only[IX,Nb,SG,Pj,QZ,Tq,z2z,z3z];(try have:=MJ c);(try have:=MJ (c-1));omega));done)))
theorem TM:∀ {f:Fo} {k:Int} {c m:Nat},FM f k c m->∀p ∈ AJ f,Gv p=true
 | .nil,k,c,m,_,p,hp=>by simp[AJ] at hp
 | .cons n ks r,k,c,m,⟨h1,h2,h3,h4⟩,p,hp=>by
  simp only[AJ,z5z,List.mem_append] at hp
  rcases hp with rfl|hp|hp
  ·exact h1
  ·exact TM h3 p hp
  ·exact TM h4 p hp
theorem Tj:∀f:Fo,((AJ f).map (·.2)).sum+f.len=(AJ f).length
 | .nil=>rfl
 | .cons n ks r=>by
  have h1:=Tj ks
  have h2:=Tj r
  simp only[AJ,Fo.len,List.map_cons,List.map_append,List.sum_cons,List.sum_append,z2z,z6z]
  omega
theorem dV(p:Nd × Nat)(hn:FY p.1)(hf:Gv p=true):RP p.2 (EJ GR p):=by
 obtain⟨⟨k,a,t,i,b⟩,c⟩:=p
 obtain⟨hk,hs,hi,hb⟩:=hn
 unfold Gv at hf
 simp only[Bool.and_eq_true,decide_eq_true_eq] at hf hk hs hi hb
 obtain⟨⟨⟨h1,h2⟩,h3⟩,h4⟩:=hf
 have q1:=XJ true i b hi hb
 have q2:=XJ false i b hi hb
 have q3:=rZ t
 unfold EJ
 refine tH k c t _ hk h1 h2 h3 hs ?_ ?_
 ·dsimp only
  split
  ·exact z7z q2.1 (by omega)
  ·split
   ·exact z7z q3.1 (by omega)
   ·exact z7z q1.1 (by omega)
 ·dsimp only
  split
  ·exact q2.2
  ·split
   ·exact q3.2
   ·exact q1.2
theorem gJ:∀ (L:List (Nd × Nat)),(∀p ∈ L,RP p.2 (EJ GR p))->Dy (EJ GR) L<=2*(L.map (·.2)).sum+8*L.length/\IE (EJ GR) L<=3*(L.map (·.2)).sum+24200*L.length
 | [],_=>⟨by simp[Dy],by simp[IE]⟩
 | p::L,h=>by
  obtain⟨h1,h2⟩:=gJ L (λq hq=>h q (by simp[hq]))
  obtain⟨_,h3,h4⟩:=h p (by simp)
  rw[Yy,TU]
  simp only[List.map_cons,List.sum_cons,z2z]
  omega
def Um(l:Fo):List ByteArray:=(Dj (EJ GR) l).flatten
def fV(l:Fo):List UInt8:=if Gn [] (Um l)=[] then [] else Gn [] (Um l)++[10]
theorem Vh:∀ (L:List (List ByteArray)),DR (BZ L.length [tK]) L=L.flatten
 | []=>rfl
 | k::L=>by
  have e:BZ (k::L).length [tK]=tK::BZ L.length [tK]:=by simp[BZ,z8z]
  rw[e,Us MB,Vh L]
  simp
theorem ZJ(tk:Nd × Nat->List ByteArray):∀f:Fo,(Dj tk f).length=f.len
 | .nil=>rfl
 | .cons n ks r=>by simp[Dj,Fo.len,ZJ tk r]
theorem mF{l:Fo}(hw:Wt .us l)(hall:Ce l)(hN:(AJ l).length<=6010):Ie (AJ (Fo.one ⟨1,0,⟨#[]⟩,0,0⟩ l))=true/\∃fuel,EF (EJ GR) (AJ (Fo.one ⟨1,0,⟨#[]⟩,0,0⟩ l)) fuel [tK] 0 []=some (fV l):=by
 have er:AJ (Fo.one ⟨1,0,⟨#[]⟩,0,0⟩ l)=(⟨1,0,⟨#[]⟩,0,0⟩,l.len)::AJ l:=by simp[Fo.one,AJ]
 have hT:=AAu (fo:=Fo.one ⟨1,0,⟨#[]⟩,0,0⟩ l) ⟨l,rfl,hw⟩ (by rw[er,z2z];omega)
 refine⟨hT,?_⟩
 have hsh:Ef 2 l:=gF hw (by omega)
 have hsk:FM l 1 l.len 0:=Db hsh λj _ _=>rfl
 have hl:=MF l
 have hfit:∀p ∈ AJ (Fo.one ⟨1,0,⟨#[]⟩,0,0⟩ l),RP p.2 (EJ GR p):=by
  rw[er]
  intro p hp
  rcases z5z.1 hp with rfl|hp
  ·refine dV _ (VK 1 0 (by decide)) ?_
   refine Qr ⟨by kernel_rfl,by kernel_rfl⟩ ?_ ?_
   ·show (0:Int)<=_;omega
   ·show _<=(9223372036854775807:Int);omega
  ·exact dV p (Qg hall p hp) (TM hsk p hp)
 obtain⟨h1,h2⟩:=gJ _ hfit
 have hk:=Tj (Fo.one ⟨1,0,⟨#[]⟩,0,0⟩ l)
 have h3:(AJ (Fo.one ⟨1,0,⟨#[]⟩,0,0⟩ l)).length<=6011:=by rw[er,z2z];omega
 obtain⟨fuel,hf⟩:=jf (EJ GR) ⟨1,0,⟨#[]⟩,0,0⟩ l (λp hp=>(hfit p hp).1) (by omega) (by omega)
 refine⟨fuel,?_⟩
 rw[hf]
 have e:DR (EJ GR (⟨1,0,⟨#[]⟩,0,0⟩,l.len)) (Dj (EJ GR) l)=Um l:=by
  have e1:EJ GR (⟨1,0,⟨#[]⟩,0,0⟩,l.len)=BZ l.len [tK]:=by simp only[EJ,Qf,if_true]
  rw[e1,<- ZJ (EJ GR) l,Vh]
  rfl
 rw[e]
 rfl
def Mc(N:Int)(s:Cs):Prop:=0<=N/\∀y ∈ s.r,(y.c=0->y.a<=N)/\(y.c≠0->y.f<=N)
def Bt(N:Int){α:Type}(x:Pm α):Prop:=∀s r,Mc N s->x s=some r->(∀f,r=.error f->f.2<=N)/\∀a s',r=.ok (a,s')->s'.r <:+ s.r
theorem Mc.suf{N:Int}{s s':Cs}(h:Mc N s)(hs:s'.r <:+ s.r):Mc N s':=⟨h.1,λy hy=>h.2 y (hs.subset hy)⟩
section
variable {α β:Type} {N:Int} {s:Cs} {y:Yd}
theorem Bt.bind{x:Pm α}{f:α->Pm β}(h:Bt N x)(g:∀a,Bt N (f a)):Bt N (x.bind f):=by
 intro s r hs e
 rcases Af e with⟨q,h1,rfl⟩|⟨a,s',h1,h2⟩
 ·exact⟨λf' hf=>(h s _ hs h1).1 _ (by cases hf;rfl),λa s' hh=>by cases hh⟩
 ·have hsuf:=(h s _ hs h1).2 a s' rfl
  obtain⟨k1,k2⟩:=g a s' r (hs.suf hsuf) h2
  exact⟨k1,λb s2 hh=>(k2 b s2 hh).trans hsuf⟩
theorem Bt.pure(a:α):Bt N (Pm.pure a):=by
 intro s r hs e
 have:=Ag e
 subst this
 exact⟨λf hf=>(by cases hf),λb s' hh=>by cases hh;exact z17z _⟩
theorem Bt.ite{c:Prop}[Decidable c]{x y:Pm α}(h:Bt N x)(g:Bt N y):Bt N (if c then x else y):=by
 split
 ·exact h
 ·exact g
theorem Uq(h:look s=.ok y):y ∈ s.r/\y.c=0/\s.r=y::s.r.tail:=by
 unfold look at h
 cases hr:s.r with
 | nil=>rw[hr] at h;cases h
 | cons z l=>
  rw[hr] at h
  simp only at h
  by_cases c:z.c=0
  ·rw[if_pos c] at h
   split at h
   ·cases h
   ·cases h
    exact⟨by simp,c,rfl⟩
  ·rw[if_neg c] at h
   cases h
theorem TA{f:Ci}(hs:Mc N s)(h:look s=.error f):f.2<=N:=by
 unfold look at h
 cases hr:s.r with
 | nil=>rw[hr] at h;cases h;exact hs.1
 | cons z l=>
  rw[hr] at h
  simp only at h
  have hz:=hs.2 z (by rw[hr];simp)
  by_cases c:z.c=0
  ·rw[if_pos c] at h
   split at h
   ·cases h;exact hz.1 c
   ·cases h
  ·rw[if_neg c] at h
   cases h
   exact hz.2 c
theorem Bt.look:Bt N BJ:=by
 intro s r hs e
 unfold BJ at e
 cases hl:Tr.look s with
 | error q=>
  rw[hl] at e
  cases e
  exact⟨λf hf=>(by cases hf;exact TA hs hl),λb s' hh=>by cases hh⟩
 | ok y=>
  rw[hl] at e
  cases e
  exact⟨λf hf=>(by cases hf),λb s' hh=>by cases hh;exact z17z _⟩
theorem Bt.take:Bt N Bf:=by
 intro s r hs e
 unfold Bf at e
 cases hl:Tr.look s with
 | error q=>
  rw[hl] at e
  cases e
  exact⟨λf hf=>(by cases hf;exact TA hs hl),λb s' hh=>by cases hh⟩
 | ok y=>
  rw[hl] at e
  cases e
  exact⟨λf hf=>(by cases hf),λb s' hh=>by cases hh;exact List.tail_suffix _⟩
theorem Bt.if{p:Yd->Prop}[DecidablePred p]:Bt N (BJ.bind λy=>if p y then Bf else JO (70,y.a)):=by
 intro s r hs e
 rcases CQ e with⟨q,h1,rfl⟩|⟨y,h1,h2⟩
 ·exact⟨λf hf=>(by cases hf;exact TA hs h1),λb s' hh=>by cases hh⟩
 ·by_cases c:p y
  ·rw[if_pos c] at h2
   exact Bt.take s r hs h2
  ·rw[if_neg c] at h2
   cases h2
   have hm:=Uq h1
   exact⟨λf hf=>(by cases hf;exact(hs.2 y hm.1).1 hm.2.1),λb s' hh=>by cases hh⟩
theorem Bt.want(t:ByteArray):Bt N (Bg t):=Bt.if (p:=λy=>AP y.t=t)
theorem Bt.name:Bt N Er:=Bt.if (p:=λy=>y.t.kind=1)
theorem Bt.st:Bt N stM:=by
 intro s r hs e
 cases e
 exact⟨λf hf=>(by cases hf),λb s' hh=>by cases hh;exact z17z _⟩
end
theorem XM(N:Int):∀n nt,Bt N (P n nt)
 | 0,nt=>by intro s r hs e;cases e
 | n+1,nt=>by
  have ih:=XM N n
  cases nt <;> unfold P
  case pl=>
   refine Bt.bind (ih _) λf=>Bt.bind Bt.look λz=>?_
   cases f with
   | nil=>exact Bt.pure _
   | cons m ks r=>exact Bt.ite (ih _) (Bt.ite (ih _) (Bt.bind (Bt.want _) λ_=>Bt.pure _))
  all_goals (repeat (first|with_reducible exact ih _|with_reducible exact Bt.pure _|with_reducible exact Bt.look|with_reducible exact Bt.take|with_reducible exact Bt.want _|with_reducible exact Bt.name|with_reducible exact Bt.st|(with_reducible refine Bt.bind ?_ (λ_=>?_))|(with_reducible refine Bt.ite ?_ ?_)))
def Sm(X Y:List Yd)(s t:Cs):Prop:=∃L,s.r=L++X/\t.r=L++Y/\s.o=t.o/\∀y ∈ L,y.c=0/\y.t.kind≠7
def Tm(X Y:List Yd){α:Type}(x:Pm α):Prop:=(∀s a s',x s=some (.ok (a,s'))->s'.r.length<=s.r.length)/\∀s t a s',Sm X Y s t->x s=some (.ok (a,s'))->X.length<s'.r.length->∃t',x t=some (.ok (a,t'))/\Sm X Y s' t'
theorem bind_ok{α β:Type}{x:Pm α}{f:α->Pm β}{s s':Cs}{a:α}(h:x s=some (.ok (a,s'))):x.bind f s=f a s':=by
 unfold Pm.bind
 rw[h]
section
variable {α β:Type} {X Y:List Yd} {s t s':Cs} {y:Yd}
theorem Sm.more(h:Sm X Y s t)(hl:X.length<s.r.length):∃z L,s.r=z::(L++X)/\t.r=z::(L++Y)/\s.o=t.o/\z.c=0/\z.t.kind≠7/\∀y ∈ L,y.c=0/\y.t.kind≠7:=by
 obtain⟨L,h1,h2,h3,h4⟩:=h
 cases L with
 | nil=>rw[h1] at hl;simp at hl
 | cons z L=>exact⟨z,L,h1,h2,h3,(h4 z (by simp)).1,(h4 z (by simp)).2,λy hy=>h4 y (by simp[hy])⟩
theorem Sm.look(h:Sm X Y s t)(hl:X.length<s.r.length):look t=look s:=by
 obtain⟨z,L,h1,h2,h3,_⟩:=h.more hl
 unfold Tr.look
 rw[h1,h2,h3]
theorem Sm.behind(h:Sm X Y s t)(hl:X.length<s.r.length):Sm X Y (behind y s) (behind y t):=by
 obtain⟨z,L,h1,h2,h3,_,_,h4⟩:=h.more hl
 exact⟨L,by simp[Tr.behind,h1],by simp[Tr.behind,h2],by simp[Tr.behind,h3],h4⟩
theorem Tm.bind{x:Pm α}{f:α->Pm β}(h:Tm X Y x)(g:∀a,Tm X Y (f a)):Tm X Y (x.bind f):=by
 constructor
 ·intro s b s2 e
  rcases Af e with⟨q,h1,h2⟩|⟨a,s1,h1,h2⟩
  ·cases h2
  ·exact z7z ((g a).1 s1 b s2 h2) (h.1 s a s1 h1)
 ·intro s t b s2 hS e hl
  rcases Af e with⟨q,h1,h2⟩|⟨a,s1,h1,h2⟩
  ·cases h2
  ·obtain⟨t1,k1,k2⟩:=h.2 s t a s1 hS h1 (Nat.lt_of_lt_of_le hl ((g a).1 s1 b s2 h2))
   rw[bind_ok k1]
   exact(g a).2 s1 t1 b s2 k2 h2 hl
theorem Tm.pure(a:α):Tm X Y (Pm.pure a):=by
 constructor
 ·intro s b s2 e
  cases e
  exact z4z _
 ·intro s t b s2 hS e hl
  cases e
  exact⟨t,rfl,hS⟩
theorem Tm.fail(f:Ci):Tm X Y (JO f:Pm α):=by
 constructor
 ·intro s b s2 e
  cases e
 ·intro s t b s2 hS e hl
  cases e
theorem Tm.ite{c:Prop}[Decidable c]{x y:Pm α}(h:Tm X Y x)(g:Tm X Y y):Tm X Y (if c then x else y):=by
 split
 ·exact h
 ·exact g
theorem YK{b:Yd}(e:BJ s=some (.ok (b,s'))):Tr.look s=.ok b/\s'=s:=by
 unfold BJ at e
 cases hl:Tr.look s with
 | error q=>rw[hl] at e;cases e
 | ok y=>rw[hl] at e;cases e;exact⟨rfl,rfl⟩
theorem dH{b:Yd}(e:Bf s=some (.ok (b,s'))):Tr.look s=.ok b/\s'=behind b s:=by
 unfold Bf at e
 cases hl:Tr.look s with
 | error q=>rw[hl] at e;cases e
 | ok y=>rw[hl] at e;cases e;exact⟨rfl,rfl⟩
theorem Tm.look:Tm X Y BJ:=by
 constructor
 ·intro s b s2 e
  rw[(YK e).2]
  exact z4z _
 ·intro s t b s2 hS e hl
  obtain⟨h1,rfl⟩:=YK e
  exact⟨t,by unfold BJ;rw[hS.look hl,h1],hS⟩
theorem take_len{b:Yd}(e:Bf s=some (.ok (b,s'))):s'.r.length<s.r.length:=by
 obtain⟨h1,rfl⟩:=dH e
 exact Iw h1
theorem aU{b:Yd}(hS:Sm X Y s t)(e:Bf s=some (.ok (b,s')))(hl:X.length<=s'.r.length):∃t',Bf t=some (.ok (b,t'))/\Sm X Y s' t':=by
 have hl2:=Nat.lt_of_le_of_lt hl (take_len e)
 obtain⟨h1,rfl⟩:=dH e
 exact⟨Tr.behind b t,by unfold Bf;rw[hS.look hl2,h1],hS.behind hl2⟩
theorem Tm.take:Tm X Y Bf:=⟨λs b s2 e=>Nat.le_of_lt (take_len e),λs t b s2 hS e hl=>aU hS e (Nat.le_of_lt hl)⟩
theorem Tm.want(t:ByteArray):Tm X Y (Bg t):=Tm.bind Tm.look λy=>Tm.ite Tm.take (Tm.fail _)
theorem Tm.name:Tm X Y Er:=Tm.bind Tm.look λy=>Tm.ite Tm.take (Tm.fail _)
theorem Tm.label{n:Nat}(h1:Tm X Y (P n .lb))(h2:Tm X Y (P n .pl))(p:Prop)[Decidable p]:Tm X Y (stM.bind λs=>if p/\colon s=true then P n .lb else P n .pl):=by
 constructor
 ·intro s b s2 e
  have e':(if p/\colon s=true then P n .lb else P n .pl) s=some (.ok (b,s2)):=e
  split at e'
  ·exact h1.1 s b s2 e'
  ·exact h2.1 s b s2 e'
 ·intro s t b s2 hS e hl
  have e':(if p/\colon s=true then P n .lb else P n .pl) s=some (.ok (b,s2)):=e
  have hlen:s2.r.length+1<=s.r.length:=by
   split at e'
   ·exact Dt e'
   ·exact Dt e'
  have hc:colon t=colon s:=by
   obtain⟨z,L,k1,k2,_⟩:=hS.more (by omega)
   rw[k1] at hlen
   cases L with
   | nil=>simp at hlen;omega
   | cons z2 L=>unfold colon;rw[k1,k2];rfl
  show ∃t',(if p/\colon t=true then P n .lb else P n .pl) t=_/\_
  rw[hc]
  split at e'
  ·rename_i c
   rw[if_pos c]
   exact h1.2 s t b s2 hS e' hl
  ·rename_i c
   rw[if_neg c]
   exact h2.2 s t b s2 hS e' hl
end
theorem Uu(X Y:List Yd):∀n nt,Tm X Y (P n nt)
 | 0,nt=>⟨λs a s' e=>(by cases e),λs t a s' _ e=>(by cases e)⟩
 | n+1,nt=>by
  have ih:=Uu X Y n
  cases nt <;> unfold P
  case pl=>
   refine Tm.bind (ih _) λf=>Tm.bind Tm.look λz=>?_
   cases f with
   | nil=>exact Tm.pure _
   | cons m ks r=>exact Tm.ite (ih _) (Tm.ite (ih _) (Tm.bind (Tm.want _) λ_=>Tm.pure _))
  all_goals (repeat (first|with_reducible exact ih _|with_reducible exact Tm.pure _|with_reducible exact Tm.look|with_reducible exact Tm.take|with_reducible exact Tm.want _|with_reducible exact Tm.name|with_reducible exact Tm.label (ih _) (ih _) _|(with_reducible refine Tm.bind ?_ (λ_=>?_))|(with_reducible refine Tm.ite ?_ ?_)))
def Tl(X Y:List Yd){α:Type}(x:Pm α):Prop:=(∀s a s',x s=some (.ok (a,s'))->s'.r.length<s.r.length)/\∀s t a s',Sm X Y s t->x s=some (.ok (a,s'))->X.length<=s'.r.length->∃t',x t=some (.ok (a,t'))/\Sm X Y s' t'
section
variable {α β:Type} {X Y:List Yd} {s t s':Cs} {y:Yd}
theorem Tl.bind{x:Pm α}{f:α->Pm β}(h:Tm X Y x)(g:∀a,Tl X Y (f a)):Tl X Y (x.bind f):=by
 constructor
 ·intro s b s2 e
  rcases Af e with⟨q,h1,h2⟩|⟨a,s1,h1,h2⟩
  ·cases h2
  ·exact Nat.lt_of_lt_of_le ((g a).1 s1 b s2 h2) (h.1 s a s1 h1)
 ·intro s t b s2 hS e hl
  rcases Af e with⟨q,h1,h2⟩|⟨a,s1,h1,h2⟩
  ·cases h2
  ·obtain⟨t1,k1,k2⟩:=h.2 s t a s1 hS h1 (Nat.lt_of_le_of_lt hl ((g a).1 s1 b s2 h2))
   rw[bind_ok k1]
   exact(g a).2 s1 t1 b s2 k2 h2 hl
theorem Tl.ret{x:Pm α}(g:α->β)(h:Tl X Y x):Tl X Y (x.bind λa=>Pm.pure (g a)):=by
 constructor
 ·intro s b s2 e
  rcases Af e with⟨q,h1,h2⟩|⟨a,s1,h1,h2⟩
  ·cases h2
  ·cases h2
   exact h.1 s a _ h1
 ·intro s t b s2 hS e hl
  rcases Af e with⟨q,h1,h2⟩|⟨a,s1,h1,h2⟩
  ·cases h2
  ·cases h2
   obtain⟨t1,k1,k2⟩:=h.2 s t a _ hS h1 hl
   rw[bind_ok k1]
   exact⟨t1,rfl,k2⟩
theorem Tl.ite{c:Prop}[Decidable c]{x y:Pm α}(h:Tl X Y x)(g:Tl X Y y):Tl X Y (if c then x else y):=by
 split
 ·exact h
 ·exact g
theorem Tl.fail(f:Ci):Tl X Y (JO f:Pm α):=by
 constructor
 ·intro s b s2 e
  cases e
 ·intro s t b s2 hS e hl
  cases e
theorem Tl.take:Tl X Y Bf:=⟨λs b s2 e=>take_len e,λs t b s2 hS e hl=>aU hS e hl⟩
theorem Tl.want(t:ByteArray):Tl X Y (Bg t):=Tl.bind Tm.look λy=>Tl.ite Tl.take (Tl.fail _)
end
theorem Vg(X Y:List Yd):∀n l,Tl X Y (P n (.blT l))
 | 0,l=>⟨λs a s' e=>(by cases e),λs t a s' _ e=>(by cases e)⟩
 | n+1,l=>by
  unfold P
  exact Tl.bind Tm.look λy=>Tl.ite (Tl.ret _ (Tl.want _)) (Tl.bind (Uu X Y n _) λx=>Vg X Y n _)
theorem ABr(X Y:List Yd):∀n,Tl X Y (P n .bl)
 | 0=>⟨λs a s' e=>(by cases e),λs t a s' _ e=>(by cases e)⟩
 | n+1=>by
  unfold P
  exact Tl.bind (Tm.want _) λy=>Tl.ret _ (Vg X Y n _)
theorem AC3(X Y:List Yd):∀n,Tl X Y (P n .fu)
 | 0=>⟨λs a s' e=>(by cases e),λs t a s' _ e=>(by cases e)⟩
 | n+1=>by
  unfold P
  exact Tl.bind (Tm.want _) λ_=>Tl.bind Tm.name λy=>Tl.bind (Uu X Y n _) λl=>Tl.ret _ (ABr X Y n)
theorem ACw(X Y:List Yd):∀n,Tl X Y (P n .gl)
 | 0=>⟨λs a s' e=>(by cases e),λs t a s' _ e=>(by cases e)⟩
 | n+1=>by
  unfold P
  exact Tl.bind (Tm.want _) λ_=>Tl.bind Tm.name λy=>Tl.ret _ (Tl.want _)
theorem ACy{n:Nat}{l:Fo}{s:Cs}{r:Fo × Cs}(h:P n (.pg l) s=some (.ok r)):1<=s.r.length:=by
 cases n with
 | zero=>cases h
 | succ n=>
  unfold P at h
  rcases CQ h with⟨q,h1,h2⟩|⟨y,h1,h2⟩
  ·cases h2
  ·rw[(Uq h1).2.2];simp
theorem kG:∀ (n:Nat) (l:Fo) (s:Cs) (r:Fo × Cs),P n (.pg l) s=some (.ok r)->∃y ∈ s.r,y.c=0/\y.t.kind=7
 | 0,l,s,r,h=>by cases h
 | n+1,l,s,r,h=>by
  unfold P at h
  rcases CQ h with⟨q,h1,h2⟩|⟨y,h1,h2⟩
  ·cases h2
  ·have hm:=Uq h1
   by_cases c:y.t.kind=7
   ·exact⟨y,hm.1,hm.2.1,c⟩
   ·rw[if_neg c] at h2
    rcases Af h2 with⟨q,k1,k2⟩|⟨x,s1,k1,k2⟩
    ·cases k2
    ·obtain⟨z,hz,hz2⟩:=kG n _ s1 r k2
     obtain⟨N,hN⟩:∃N:Int,Mc N s:=by
      have:∀L:List Yd,∃N:Int,0<=N/\∀y ∈ L,(y.c=0->y.a<=N)/\(y.c≠0->y.f<=N):=by
       intro L
       induction L with
       | nil=>exact⟨0,by omega,by simp⟩
       | cons u L ih=>
        obtain⟨N,h0,h⟩:=ih
        refine⟨max N (max u.a u.f),by omega,λy hy=>?_⟩
        rcases z5z.1 hy with rfl|hy
        ·exact⟨λ_=>by omega,λ_=>by omega⟩
        ·exact⟨λe=>by have:=(h y hy).1 e;omega,λe=>by have:=(h y hy).2 e;omega⟩
      exact this s.r
     exact⟨z,((XM N n _ s _ hN k1).2 x s1 rfl).subset hz,hz2⟩
end Go.Proofs.YtjplieobnknnpaaGreatDoor.W.Tr
namespace Go.Proofs.YtjplieobnknnpaaGreatDoor.W
set_option linter.unusedVariables false
def Il(Y Z:List UInt8):Prop:=Z=[]\/Z.head? = some 10\/Z.head? = Y.head? \/ Z.head? = some 32
theorem Il.stop{Y Z:List UInt8}(h:Il Y Z){p:UInt8->Bool}(h10:p 10=false/\p 32=false)(hy:∀c,Y.head? = some c->p c=false):∀c,Z.head? = some c->p c=false:=by
 intro c hc
 rcases h with rfl|h|h|h
 ·cases hc
 ·rw[h] at hc;injection hc with hc;rw[<- hc];exact h10.1
 ·rw[h] at hc;exact hy c hc
 ·rw[h] at hc;injection hc with hc;rw[<- hc];exact h10.2
theorem Yu(p:UInt8->Bool)(x Y:List UInt8)(h:runN p (x++Y)=x.length):(∀c ∈ x,p c=true)/\∀c,Y.head? = some c->p c=false:=by
 induction x with
 | nil=>
  refine⟨λc hc=>by simp at hc,λc hc=>?_⟩
  cases Y with
  | nil=>cases hc
  | cons d Y=>
   injection hc with hc
   subst hc
   cases e:p d
   ·rfl
   ·rw[z12z,GQ e] at h;simp at h
 | cons d x ih=>
  cases e:p d
  ·rw[z1z,GJ e] at h;simp at h
  ·rw[z1z,GQ e] at h
   obtain⟨h1,h2⟩:=ih (by simpa using h)
   refine⟨λc hc=>?_,h2⟩
   rcases z5z.1 hc with rfl|hc
   ·exact e
   ·exact h1 c hc
theorem YQ(p:UInt8->Bool)(x Z:List UInt8)(h:∀c ∈ x,p c=true)(hz:∀c,Z.head? = some c->p c=false):runN p (x++Z)=x.length:=by
 induction x with
 | nil=>
  cases Z with
  | nil=>rfl
  | cons d Z=>exact GJ (hz d rfl)
 | cons d x ih=>
  rw[z1z,GQ (h d (by simp)),ih (λc hc=>h c (by simp[hc]))]
  rfl
theorem Mj(p:UInt8->Bool)(x Y Z:List UInt8)(hL:Il Y Z)(h10:p 10=false/\p 32=false)(h:runN p (x++Y)=x.length):runN p (x++Z)=x.length:=by
 obtain⟨h1,h2⟩:=Yu p x Y h
 exact YQ p x Z h1 (hL.stop h10 h2)
theorem L6(x Z:List UInt8):(x++Z).take x.length=x:=by simp
theorem VE(p:UInt8->Bool)(c:UInt8)(r q:List UInt8)(h:runN p (c::r)=0):runN p (c::q)=0:=by
 cases e:p c
 ·exact GJ e
 ·rw[GQ e] at h;omega
theorem Va(c:UInt8)(x Y Z:List UInt8)(h:(Eb (c::x++Y)).size=0):(Eb (c::x++Z)).size=0:=by
 have h':Ho (c::(x++Y))=0:=h
 show Ho (c::(x++Z))=0
 have hd:∀Q:List UInt8,(c::(x++Q)).head? = some 35↔c=35:=λQ=>by simp
 unfold Ho at h' ⊢
 by_cases g:c=35
 ·rw[if_pos ((hd _).2 g)] at h' ⊢
  exact VE _ _ _ _ h'
 ·rw[if_neg (λe=>g ((hd _).1 e))] at h' ⊢
  exact VE _ _ _ _ h'
theorem Tp(c:UInt8)(x Y Z:List UInt8)(hL:Il Y Z):((nameP (c::x++Y)).size=0->(nameP (c::x++Z)).size=0)/\(¬ (nameP (c::x++Y)).size=0->(nameP (c::x++Y)).size=(c::x).length->nameP (c::x++Z)=nameP (c::x++Y)):=by
 have cn:∀Q:List UInt8,(runN Az (c::x++Q)=0\/Q0 AV (c::x++Q)=true)↔(Az c=false\/AV c=true):=by
  intro Q
  have e:Q0 AV (c::x++Q)=AV c:=rfl
  rw[e]
  constructor
  ·rintro(h|h)
   ·left
    cases e:Az c
    ·rfl
    ·rw[z1z,GQ e] at h;omega
   ·exact .inr h
  ·rintro(h|h)
   ·exact .inl (GJ h)
   ·exact .inr h
 by_cases k:Az c=false\/AV c=true
 ·have z:∀Q,nameP (c::x++Q)=Cg:=λQ=>by unfold nameP;exact if_pos ((cn Q).2 k)
  rw[z Y,z Z]
  exact⟨λ_=>rfl,λ_ _=>rfl⟩
 ·have z:∀Q,nameP (c::x++Q)=if 31<runN Az (c::x++Q) then DF (runN Az (c::x++Q)) 63 else Aj (Gf ((c::x++Q).take (runN Az (c::x++Q)))) (runN Az (c::x++Q)):=λQ=>by unfold nameP;exact if_neg (λh=>k ((cn Q).1 h))
  have sz:∀Q,(nameP (c::x++Q)).size=runN Az (c::x++Q):=λQ=>by rw[z Q];split <;> rfl
  refine⟨λh=>?_,λ_ h=>?_⟩
  ·rw[sz] at h
   exact absurd ((cn Y).1 (.inl h)) k
  ·rw[sz] at h
   have h2:=Mj Az (c::x) Y Z hL (by decide) h
   rw[z Z,z Y,h,h2,L6,L6]
theorem YI(c:UInt8)(x Y Z:List UInt8)(hL:Il Y Z):((Cr (c::x++Y)).size=0->(Cr (c::x++Z)).size=0)/\(¬ (Cr (c::x++Y)).size=0->(Cr (c::x++Y)).size=(c::x).length->Cr (c::x++Z)=Cr (c::x++Y)):=by
 have sz:∀Q:List UInt8,(Cr Q).size=runN AV Q:=λQ=>by
  unfold Cr
  split
  ·rename_i h;rw[h];rfl
  ·split <;> rfl
 refine⟨λh=>?_,λh0 h=>?_⟩
 ·rw[sz] at h ⊢
  exact VE _ _ _ _ h
 ·rw[sz] at h h0
  have h2:=Mj AV (c::x) Y Z hL (by decide) h
  unfold Cr
  rw[if_neg h0,if_neg (by rw[h2];simp),h,h2,L6,L6]
theorem nG(x Y Z:List UInt8)(hL:Il Y Z)(h:Ca (x++Y)=x.length):Ca (x++Z)=x.length:=by
 cases x with
 | nil=>
  have hz:Z.head? ≠ some 112:=by
   rcases hL with rfl|hl|hl|hl
   ·simp
   ·rw[hl];decide
   rotate_left
   ·rw[hl];decide
   ·rw[hl]
    cases Y with
    | nil=>simp
    | cons d Y=>
     intro e
     injection e with e
     subst e
     rw[z12z] at h
     unfold Ca at h
     split at h <;> simp_all <;> omega
  cases Z with
  | nil=>rfl
  | cons d Z=>
   have hd:d≠112:=λe=>hz (by rw[e];rfl)
   show Ca (d::Z)=0
   unfold Ca
   split <;> simp_all
 | cons c x=>
  have hc:c=112:=by
   by_cases e:c=112
   ·exact e
   ·rw[z1z] at h
    unfold Ca at h
    split at h <;> simp_all
  subst hc
  cases x with
  | nil=>
   have hy:∀d,Y.head? = some d->d≠43/\d≠45/\AV d=false:=by
    intro d hd
    cases Y with
    | nil=>cases hd
    | cons e Y=>
     injection hd with hd
     subst hd
     have h1:Ca (112::e::Y)=1:=h
     refine⟨?_,?_,?_⟩
     ·rintro rfl;unfold Ca at h1;simp at h1;omega
     ·rintro rfl;unfold Ca at h1;simp at h1;omega
     ·cases g:AV e
      ·rfl
      ·by_cases e1:e=43
       ·subst e1;unfold Ca at h1;simp at h1;omega
       ·by_cases e2:e=45
        ·subst e2;unfold Ca at h1;simp at h1;omega
        ·have:Ca (112::e::Y)=1+runN AV (e::Y):=by unfold Ca;split <;> simp_all
         rw[this,GQ g] at h1
         omega
   show Ca (112::Z)=1
   cases Z with
   | nil=>rfl
   | cons e Z=>
    have hz:e≠43/\e≠45/\AV e=false:=by
     rcases hL with hl|hl|hl|hl
     ·cases hl
     ·injection hl with hl;subst hl;decide
     ·exact hy e hl.symm
     ·injection hl with hl;subst hl;decide
    have:Ca (112::e::Z)=1+runN AV (e::Z):=by unfold Ca;split <;> simp_all
    rw[this,GJ hz.2.2]
  | cons d x=>
   by_cases e1:d=43
   ·subst e1
    have a1:∀Q,Ca (112::43::(x++Q))=2+runN AV (x++Q):=λQ=>rfl
    have h':2+runN AV (x++Y)=x.length+2:=h
    show 2+runN AV (x++Z)=x.length+2
    rw[Mj AV x Y Z hL (by decide) (by omega)]
    omega
   ·by_cases e2:d=45
    ·subst e2
     have h':2+runN AV (x++Y)=x.length+2:=h
     show 2+runN AV (x++Z)=x.length+2
     rw[Mj AV x Y Z hL (by decide) (by omega)]
     omega
    ·have a1:∀Q,Ca (112::d::(x++Q))=1+runN AV (d::x++Q):=λQ=>by unfold Ca;split <;> simp_all
     have h':Ca (112::d::(x++Y))=x.length+2:=h
     show Ca (112::d::(x++Z))=x.length+2
     rw[a1] at h' ⊢
     have e3:(d::x).length=x.length+1:=rfl
     rw[Mj AV (d::x) Y Z hL (by decide) (by omega)]
     omega
theorem ABh(x Y Z:List UInt8)(hL:Il Y Z)(hx:2<=x.length)(h:DC (x++Y)=x.length):DC (x++Z)=x.length:=by
 unfold DC at h ⊢
 have d2:∀Q,(x++Q).drop 2=x.drop 2++Q:=λQ=>z9z hx
 rw[d2] at h ⊢
 have hle:=GK Dr (x.drop 2++Y)
 obtain⟨n,hn⟩:∃n,runN Dr (x.drop 2++Y)=n:=⟨_,rfl⟩
 rw[hn] at h
 have hnx:n<=(x.drop 2).length:=by rw[z0z];omega
 have dn:∀Q,(x++Q).drop (2+n)=x.drop (2+n)++Q:=λQ=>z9z (by rw[z0z] at hnx;omega)
 rw[dn] at h
 have hp:Ca (x.drop (2+n)++Y)=(x.drop (2+n)).length:=by rw[z0z];omega
 have hz:runN Dr (x.drop 2++Z)=n:=by
  by_cases c:n=(x.drop 2).length
  ·rw[c] at hn ⊢
   exact Mj Dr _ Y Z hL (by decide) hn
  ·have hlt:n<(x.drop 2).length:=by omega
   have sp:∀Q:List UInt8,x.drop 2++Q=(x.drop 2).take n++((x.drop 2).drop n++Q):=λQ=>by rw[<- z18z,z13z]
   have tl:((x.drop 2).take n).length=n:=by rw[z14z];omega
   have h1:=hn
   rw[sp Y] at h1
   obtain⟨a1,a2⟩:=Yu Dr _ _ (by rw[tl];exact h1)
   rw[sp Z]
   rw[YQ Dr _ _ a1 ?_,tl]
   intro c hc
   apply a2
   cases hq:(x.drop 2).drop n with
   | nil=>have:=congrArg List.length hq;rw[z0z,z0z,z3z] at this;rw[z0z] at hlt;omega
   | cons d q=>rw[hq] at hc;exact hc
 rw[hz,dn,nG _ Y Z hL hp,z0z]
 rw[z0z] at hnx
 omega
theorem Vq(c:UInt8)(x Y Z a:List UInt8)(hL:Il Y Z)(h10:(10:UInt8) ∉ a/\(32:UInt8) ∉ a)(ha:a.length<=2)(h:(c::x++Z).take a.length=a):(c::x++Y).take a.length=a:=by
 match a,ha with
 | [],_=>rfl
 | [d],_=>exact h
 | [d,e],_=>
  cases x with
  | cons b x=>exact h
  | nil=>
   have h':c::Z.take 1=[d,e]:=h
   injection h' with h1 h2
   show c::Y.take 1=[d,e]
   rw[h1]
   congr 1
   rcases hL with rfl|hl|hl|hl
   ·simp at h2
   ·cases Z with
    | nil=>cases hl
    | cons z Z=>
     injection hl with hl
     simp at h2
     exact absurd (by rw[<- h2,hl];simp) h10.1
   rotate_left
   ·cases Z with
    | nil=>cases hl
    | cons z Z=>
     injection hl with hl
     simp at h2
     exact absurd (by rw[<- h2,hl];simp) h10.2
   ·cases Z with
    | nil=>simp at h2
    | cons z Z=>
     simp at h2
     cases Y with
     | nil=>cases hl
     | cons y Y=>
      injection hl with hl
      simp[<- hl,h2]
theorem Yc(c:UInt8)(x Y Z:List UInt8)(hL:Il Y Z):((Cj (c::x++Y)).size=0->(Cj (c::x++Z)).size=0)/\(¬ (Cj (c::x++Y)).size=0->(Cj (c::x++Y)).size=(c::x).length->Cj (c::x++Z)=Cj (c::x++Y)):=by
 have sz:∀Q:List UInt8,Q.take 2=ER->(Cj Q).size=DC Q:=λQ h=>by unfold Cj;rw[if_pos h];split <;> rfl
 have no:∀Q:List UInt8,¬Q.take 2=ER->Cj Q=Cg:=λQ h=>by unfold Cj;rw[if_neg h]
 have back:(c::x++Z).take 2=ER->(c::x++Y).take 2=ER:=Vq c x Y Z ER hL (by decide) (by decide)
 have dpos:∀Q:List UInt8,¬DC Q=0:=λQ=>by unfold DC;omega
 by_cases k:(c::x++Y).take 2=ER
 ·refine⟨λh=>absurd ((sz _ k).symm.trans h) (dpos _),λ_ h=>?_⟩
  rw[sz _ k] at h
  have h2:2<=(c::x).length:=by rw[<- h];unfold DC;omega
  have e2:∀Q:List UInt8,(c::x++Q).take 2=(c::x).take 2:=λQ=>List.take_append_of_le_length h2
  have kz:(c::x++Z).take 2=ER:=by rw[e2] at k ⊢;exact k
  have hz:=ABh (c::x) Y Z hL h2 h
  unfold Cj
  rw[if_pos k,if_pos kz,h,hz,L6,L6]
 ·have kz:¬ (c::x++Z).take 2=ER:=λh=>k (back h)
  rw[no _ k,no _ kz]
  exact⟨λ_=>rfl,λ_ _=>rfl⟩
theorem qZ(x Y Z:List UInt8)(h:(Ar (x++Y)).2<x.length)(h0:(Ar (x++Y)).2≠0):Ar (x++Z)=Ar (x++Y):=by
 match x with
 | []=>simp at h
 | [c]=>
  have e:(Ar (c::Y)).2=0:=by
   have:(Ar (c::Y)).2<1:=h
   omega
  exact absurd e h0
 | c::d::q=>
  rw[z1z,z1z] at h h0 ⊢
  rw[z1z,z1z]
  by_cases a:c.toNat<32\/126<c.toNat
  ·have e:∀Q,Ar (c::d::(q++Q))=(0,0):=λQ=>by unfold Ar;dsimp only;rw[if_pos a]
   rw[e,e]
  ·by_cases b:c=92
   ·subst b
    by_cases d1:d=92\/d=34\/d=110
    ·rcases d1 with rfl|rfl|rfl <;> rfl
    ·by_cases d4:d=120
     ·subst d4
      match q with
      | []=>
       exfalso
       have hs:(Ar (92::120::([]++Y))).2=0\/(Ar (92::120::([]++Y))).2=4:=by
        match Y with
        | []=>exact .inl rfl
        | [h1]=>exact .inl rfl
        | h1::h2::Y=>
         show (if BA h1=true/\BA h2=true then _ else ((0,0):Nat × Nat)).2=0\/(if BA h1=true/\BA h2=true then ((16*Aw h1+Aw h2).toNat,4) else ((0,0):Nat × Nat)).2=4
         split
         ·exact .inr rfl
         ·exact .inl rfl
       rcases hs with hs|hs
       ·exact h0 hs
       ·rw[hs] at h;simp at h
      | [h1]=>
       exfalso
       have hs:(Ar (92::120::([h1]++Y))).2=0\/(Ar (92::120::([h1]++Y))).2=4:=by
        match Y with
        | []=>exact .inl rfl
        | h2::Y=>
         show (if BA h1=true/\BA h2=true then _ else ((0,0):Nat × Nat)).2=0\/(if BA h1=true/\BA h2=true then ((16*Aw h1+Aw h2).toNat,4) else ((0,0):Nat × Nat)).2=4
         split
         ·exact .inr rfl
         ·exact .inl rfl
       rcases hs with hs|hs
       ·exact h0 hs
       ·rw[hs] at h;simp at h
      | h1::h2::q=>rfl
     ·exfalso
      apply h0
      obtain⟨k1,k2,k3,k4,k5⟩:=(UA (d::(q++Y))).2 d (q++Y) rfl
      rw[k5 (λe=>d1 (.inl e)) (λe=>d1 (.inr (.inl e))) (λe=>d1 (.inr (.inr e))) d4]
   ·have e:∀Q,Ar (c::d::(q++Q))=(c.toNat,1):=λQ=>(UO c (d::(q++Q))).2 a b
    rw[e,e]
theorem Jk{n m:Nat}{t:Tk}(h:DF n 61=Aj t m):False:=by
 have:=congrArg Pc.code h
 exact absurd (show (61:Int)=0 from this) (by decide)
theorem Pv:∀ (f:Nat) (r:List UInt8) (k m:Nat) (acc:List UInt8) (t:Tk),Cc f r k acc=Aj t m->k<m
 | 0,r,k,m,acc,t,h=>(Jk (n:=k) (m:=m) (t:=t) (by simpa [Cc] using h)).elim
 | f+1,[],k,m,acc,t,h=>(Jk ((Lg (f+1) k acc).symm.trans h)).elim
 | f+1,c::q,k,m,acc,t,h=>by
  by_cases c1:c=34
  ·have:=(Js (f+1) k c q acc (by omega) c1).symm.trans h
   have e:=congrArg Pc.size this
   have e':k+1=m:=e
   omega
  ·by_cases c2:(Ar (c::q)).2=0
   ·exact(Jk ((J7 (f+1) k c q acc (by omega) c1 c2).symm.trans h)).elim
   ·have:=Pv f _ _ m _ t ((Jv f k c q acc c1 c2).symm.trans h)
    omega
theorem dK:∀ (f:Nat) (r:List UInt8) (k:Nat) (acc:List UInt8),k<=(Cc f r k acc).size
 | 0,r,k,acc=>by unfold Cc;exact z4z _
 | f+1,[],k,acc=>by rw[Lg];exact z4z _
 | f+1,c::q,k,acc=>by
  by_cases c1:c=34
  ·rw[Js (f+1) k c q acc (by omega) c1]
   exact Nat.le_succ _
  ·by_cases c2:(Ar (c::q)).2=0
   ·rw[J7 (f+1) k c q acc (by omega) c1 c2]
    exact z4z _
   ·rw[Jv f k c q acc c1 c2]
    exact z7z (Nat.le_add_right _ _) (dK f _ _ _)
theorem xD(n:Nat):∀ (f f':Nat) (x Y Z acc:List UInt8) (k m:Nat) (t:Tk),x.length<=n->m=k+x.length->Cc f (x++Y) k acc=Aj t m->x.length<=f'->Cc f' (x++Z) k acc=Aj t m:=by
 induction n with
 | zero=>
  intro f f' x Y Z acc k m t hx hm h hf
  have:=Pv f _ k m acc t h
  omega
 | succ n ih=>
  intro f f' x Y Z acc k m t hx hm h hf
  have hb:=Pv f _ k m acc t h
  cases x with
  | nil=>simp at hm;omega
  | cons c x=>
   cases f with
   | zero=>exact(Jk (n:=k) (m:=m) (t:=t) (by simpa [Cc] using h)).elim
   | succ f=>
    cases f' with
    | zero=>simp at hf
    | succ f'=>
     rw[z1z] at h ⊢
     by_cases c1:c=34
     ·rw[Js (f+1) k c _ acc (by omega) c1] at h
      rw[Js (f'+1) k c _ acc (by omega) c1]
      exact h
     ·by_cases c2:(Ar (c::(x++Y))).2=0
      ·exact(Jk ((J7 (f+1) k c (x++Y) acc (by omega) c1 c2).symm.trans h)).elim
      ·rw[Jv f k c (x++Y) acc c1 c2] at h
       have hb2:=Pv f _ _ m _ t h
       have hlt:(Ar (c::x++Y)).2<(c::x).length:=by
        show (Ar (c::(x++Y))).2<(c::x).length
        omega
       have es:Ar (c::(x++Z))=Ar (c::(x++Y)):=qZ (c::x) Y Z hlt c2
       rw[Jv f' k c (x++Z) acc c1 (by rw[es];exact c2),es]
       obtain⟨s,hs⟩:∃s,Ar (c::(x++Y))=s:=⟨_,rfl⟩
       have hlt':s.2<(c::x).length:=by rw[<- hs];exact hlt
       rw[hs] at h hb2 c2 ⊢
       have dr:∀Q:List UInt8,(c::(x++Q)).drop s.2=(c::x).drop s.2++Q:=λQ=>by
        rw[<- z1z]
        exact z9z (by omega)
       rw[dr] at h ⊢
       exact ih f f' _ Y Z _ _ m t (by rw[z0z];omega) (by rw[z0z];omega) h (by rw[z0z];omega)
theorem XH(c:UInt8)(x Y Z:List UInt8):((DJ (c::x++Y)).size=0->(DJ (c::x++Z)).size=0)/\(∀t,DJ (c::x++Y)=Aj t (c::x).length->DJ (c::x++Z)=Aj t (c::x).length):=by
 have hd:∀Q:List UInt8,(c::x++Q).head? = some 34↔c=34:=λQ=>by simp
 by_cases k:c=34
 ·have e:∀Q:List UInt8,DJ (c::x++Q)=qd (Cc (c::x++Q).length (x++Q) 1 []):=λQ=>by unfold DJ;rw[if_pos ((hd Q).2 k)];rfl
  refine⟨λh0=>?_,λt h=>?_⟩
  ·rw[e] at h0
   have:=dK (c::x++Y).length (x++Y) 1 []
   rcases M7 (Cc (c::x++Y).length (x++Y) 1 []) with g|⟨_,g⟩
   ·rw[g] at h0
    omega
   ·rw[g] at h0
    exact absurd h0 (by decide)
  ·rw[e] at h
   rw[e]
   have e1:(c::x).length=1+x.length:=by simp;omega
   rcases M7 (Cc (c::x++Y).length (x++Y) 1 []) with g|⟨_,g⟩
   ·rw[g] at h
    have h2:=xD x.length _ (c::x++Z).length x Y Z [] 1 _ t (z4z _) e1 h (by simp;omega)
    rw[Tc (by rw[h2];rfl)]
    exact h2
   ·rw[g] at h
    exact(Jk h).elim
 ·have e:∀Q:List UInt8,DJ (c::x++Q)=Cg:=λQ=>by unfold DJ;exact if_neg (λh=>k ((hd Q).1 h))
  rw[e,e]
  exact⟨λ_=>rfl,λ_ h=>h⟩
theorem oM(c:UInt8)(x Y Z:List UInt8)(hL:Il Y Z)(t:Tk)(h:EI (c::x++Y)=Aj t (c::x).length):EI (c::x++Z)=Aj t (c::x).length:=by
 unfold EI at h ⊢
 have m10:∀m ∈ marks,((10:UInt8) ∉ m/\(32:UInt8) ∉ m)/\m.length<=2:=by decide
 cases hf:marks.find? (λm=>(c::x++Y).take m.length==m) with
 | none=>rw[hf] at h;have:=congrArg Pc.size h;simp[Cg,Aj] at this
 | some m=>
  rw[hf] at h
  have hsz:m.length=(c::x).length:=congrArg Pc.size h
  obtain⟨hp,as',bs,hl,hn⟩:=z22z.1 hf
  have hz:marks.find? (λm=>(c::x++Z).take m.length==m)=some m:=by
   rw[z22z]
   refine⟨?_,as',bs,hl,λa ha=>?_⟩
   ·rw[beq_iff_eq] at hp ⊢
    rw[hsz,L6] at hp ⊢
    exact hp
   ·have hna:=hn a ha
    have ham:a ∈ marks:=by rw[hl];simp[ha]
    cases g:((c::x++Z).take a.length==a)
    ·rfl
    ·exfalso
     have:=Vq c x Y Z a hL (m10 a ham).1 (m10 a ham).2 (by simpa using g)
     rw[this] at hna
     simp at hna
  rw[hz]
  exact h
theorem y9(x Y Z:List UInt8)(hL:Il Y Z)(t:Tk)(hx:x≠[])(hk:t.kind≠0)(h:AQ (x++Y)=Aj t x.length):AQ (x++Z)=Aj t x.length:=by
 cases x with
 | nil=>exact absurd rfl hx
 | cons c x=>
  have hpos:¬ (c::x).length=0:=by simp
  unfold AQ at h ⊢
  by_cases g1:(Eb (c::x++Y)).size=0
  ·rw[D8 g1] at h
   rw[D8 (Va c x Y Z g1)]
   by_cases g2:(nameP (c::x++Y)).size=0
   ·rw[D8 g2] at h
    rw[D8 ((Tp c x Y Z hL).1 g2)]
    by_cases g3:(Cj (c::x++Y)).size=0
    ·rw[D8 g3] at h
     rw[D8 ((Yc c x Y Z hL).1 g3)]
     by_cases g4:(Cr (c::x++Y)).size=0
     ·rw[D8 g4] at h
      rw[D8 ((YI c x Y Z hL).1 g4)]
      by_cases g5:(DJ (c::x++Y)).size=0
      ·rw[D8 g5] at h
       rw[D8 ((XH c x Y Z).1 g5)]
       exact oM c x Y Z hL t h
      ·rw[Gj g5] at h
       have:=(XH c x Y Z).2 t h
       rw[Gj (by rw[this];exact hpos),this]
     ·rw[Gj g4] at h
      have:=(YI c x Y Z hL).2 g4 (congrArg Pc.size h)
      rw[Gj (by rw[this];exact g4),this,h]
    ·rw[Gj g3] at h
     have:=(Yc c x Y Z hL).2 g3 (congrArg Pc.size h)
     rw[Gj (by rw[this];exact g3),this,h]
   ·rw[Gj g2] at h
    have:=(Tp c x Y Z hL).2 g2 (congrArg Pc.size h)
    rw[Gj (by rw[this];exact g2),this,h]
  ·rw[Gj g1] at h
   exfalso
   have:=congrArg (λp=>p.t.kind) h
   exact hk this.symm
def Je:Nat->List UInt8->Nat->List Yd
 | 0,_,_=>[]
 | f+1,r,a=>if r=[] then [⟨Eo,a,0,0⟩] else
  if (AQ r).size=0 then [⟨Cy,0,60,a⟩] else
  if (AQ r).code≠0 then [⟨Cy,0,(AQ r).code,a⟩] else
  if (AQ r).t.kind≠0 then ⟨(AQ r).t,a,0,0⟩::Je f (r.drop (AQ r).size) (a+(AQ r).size) else Je f (r.drop (AQ r).size) (a+(AQ r).size)
theorem ZL:∀ (f:Nat) (l:List UInt8) (a:Nat),Dx f l a=Je f (l.drop a) a
 | 0,_,_=>rfl
 | f+1,l,a=>by
  have e:l.drop a=[]↔l.length<=a:=List.drop_eq_nil_iff
  unfold Dx Je
  by_cases c:l.length<=a
  ·rw[if_pos c,if_pos (e.2 c)]
  ·rw[if_neg c,if_neg (λh=>c (e.1 h))]
   rw[ZL f l,List.drop_drop]
theorem Ze:∀ (f g:Nat) (r:List UInt8) (a:Nat),r.length<f->r.length<g->Je f r a=Je g r a
 | 0,_,_,_,h,_=>by omega
 | _,0,_,_,_,h=>by omega
 | f+1,g+1,r,a,hf,hg=>by
  unfold Je
  by_cases c:r=[]
  ·rw[if_pos c,if_pos c]
  ·rw[if_neg c,if_neg c]
   by_cases c1:(AQ r).size=0
   ·rw[if_pos c1,if_pos c1]
   ·rw[if_neg c1,if_neg c1]
    have hl:0<r.length:=List.length_pos_iff.2 c
    have e:=Ze f g (r.drop (AQ r).size) (a+(AQ r).size) (by rw[z0z];omega) (by rw[z0z];omega)
    rw[e]
def T(r:List UInt8)(a:Nat):List Yd:=Je (r.length+1) r a
theorem WI(l:List UInt8)(h:l.length<=65536):Au l=T l 0:=by
 unfold Au
 rw[if_neg (by omega),ZL]
 rfl
theorem Qe(a:Nat):T [] a=[⟨Eo,a,0,0⟩]:=rfl
section
variable {r:List UInt8} {a:Nat}
theorem Ju(hr:r≠[]):T r a=if (AQ r).size=0 then [⟨Cy,0,60,a⟩] else if (AQ r).code≠0 then [⟨Cy,0,(AQ r).code,a⟩] else if (AQ r).t.kind≠0 then ⟨(AQ r).t,a,0,0⟩::T (r.drop (AQ r).size) (a+(AQ r).size) else T (r.drop (AQ r).size) (a+(AQ r).size):=by
 have hl:0<r.length:=List.length_pos_iff.2 hr
 by_cases c1:(AQ r).size=0
 ·rw[if_pos c1]
  unfold T
  conv=>lhs;unfold Je
  rw[if_neg hr,if_pos c1]
 ·have e:=Ze r.length ((r.drop (AQ r).size).length+1) (r.drop (AQ r).size) (a+(AQ r).size) (by rw[z0z];omega) (by omega)
  rw[if_neg c1]
  unfold T
  conv=>lhs;unfold Je
  rw[if_neg hr,if_neg c1,e]
end
theorem dD(c:UInt8)(r:List UInt8)(h:FE c=true):AQ (c::r)=⟨Cy,runN FE r+1,0⟩:=by
 have g:Ho (c::r)=runN FE r+1:=by
  unfold Ho
  rw[if_neg (by intro e;injection e with e;subst e;revert h;decide),GQ h]
 unfold AQ
 have:Eb (c::r)=⟨Cy,runN FE r+1,0⟩:=by unfold Eb;rw[g]
 rw[this,Gj (by simp)]
theorem R7(c:UInt8)(r:List UInt8)(a:Nat)(h:FE c=true):T (c::r) a=T r (a+1):=by
 have e:=dD c r h
 rw[Ju (by simp),e]
 simp only[z19z,z20z,and_false,if_false]
 have k0:Cy.kind=0:=rfl
 rw[k0]
 simp only[ne_eq,not_true_eq_false,if_false,z15z]
 cases r with
 | nil=>rfl
 | cons d q=>
  by_cases hd:FE d=true
  ·have e2:=dD d q hd
   rw[Ju (r:=d::q) (by simp),e2]
   simp only[z19z,z20z,and_false,if_false]
   rw[k0]
   simp only[ne_eq,not_true_eq_false,if_false,z15z]
   rw[GQ hd]
   simp only[z15z]
   congr 1
   omega
  ·rw[GJ (by simpa using hd)]
   rfl
theorem jM(r:List UInt8):AQ (35::r)=⟨Cy,runN DW r+1,0⟩:=by
 have g:Ho (35::r)=runN DW r+1:=by
  unfold Ho
  rw[if_pos (show (35::r).head? = some 35 from rfl),GQ (by decide)]
 unfold AQ
 have:Eb (35::r)=⟨Cy,runN DW r+1,0⟩:=by unfold Eb;rw[g]
 rw[this,Gj (by simp)]
theorem fQ(r:List UInt8)(a:Nat):T (35::r) a=T (r.drop (runN DW r)) (a+(runN DW r+1)):=by
 rw[Ju (by simp),jM r]
 simp only[z19z,z20z,and_false,if_false]
 have k0:Cy.kind=0:=rfl
 rw[k0]
 simp only[ne_eq,not_true_eq_false,if_false,z15z]
def KW(p:Pc):Prop:=p.size≠0->p.code=0->p.t.kind≠0
theorem Np:KW Cg:=λh _=>absurd rfl h
theorem Kv(n:Nat)(c:Int)(h:c≠0):KW (DF n c):=λ_ h2=>absurd h2 h
theorem OC(t:Tk)(n:Nat)(h:t.kind≠0):KW (Aj t n):=λ_ _=>h
theorem Qv{a b:Pc}(ha:KW a)(hb:KW b):KW (DI a b):=by
 unfold DI
 split
 ·exact hb
 ·exact ha
theorem vB(l:List UInt8):(Gf l).kind≠0:=by
 unfold Gf
 split
 ·decide
 ·split
  ·decide
  ·split
   ·show (2:Int)≠0;decide
   ·show (1:Int)≠0;decide
theorem XR:∀ (f:Nat) (r:List UInt8) (k:Nat) (acc:List UInt8),KW (Cc f r k acc)
 | 0,r,k,acc=>by unfold Cc;exact Kv _ _ (by decide)
 | f+1,[],k,acc=>by rw[Lg];exact Kv _ _ (by decide)
 | f+1,c::q,k,acc=>by
  by_cases c1:c=34
  ·rw[Js (f+1) k c q acc (by omega) c1]
   exact OC _ _ (show (6:Int)≠0 by decide)
  ·by_cases c2:(Ar (c::q)).2=0
   ·rw[J7 (f+1) k c q acc (by omega) c1 c2]
    exact Kv _ _ (by decide)
   ·rw[Jv f k c q acc c1 c2]
    exact XR f _ _ _
theorem oz(r:List UInt8):KW (DI (nameP r) (DI (Cj r) (DI (Cr r) (DI (DJ r) (EI r))))):=by
 refine Qv ?_ (Qv ?_ (Qv ?_ (Qv ?_ ?_)))
 ·unfold nameP
  split
  ·exact Np
  ·split
   ·exact Kv _ _ (by decide)
   ·exact OC _ _ (vB _)
 ·unfold Cj
  split
  ·split
   ·exact OC _ _ (show (5:Int)≠0 by decide)
   ·exact Kv _ _ (by decide)
  ·exact Np
 ·unfold Cr
  split
  ·exact Np
  ·split
   ·exact OC _ _ (show (4:Int)≠0 by decide)
   ·exact Kv _ _ (by decide)
 ·unfold DJ
  split
  ·rcases M7 (Cc r.length (r.drop 1) 1 []) with g|⟨_,g⟩
   ·rw[g]
    exact XR _ _ _ _
   ·rw[g]
    exact Kv _ _ (by decide)
  ·exact Np
 ·unfold EI
  split
  ·exact OC _ _ (show (3:Int)≠0 by decide)
  ·exact Np
theorem zY(c:UInt8)(r:List UInt8)(hs:(AQ (c::r)).size≠0)(hc:(AQ (c::r)).code=0)(hk:(AQ (c::r)).t.kind=0):c=35\/FE c=true:=by
 by_cases h1:c=35
 ·exact .inl h1
 ·right
  cases h2:FE c
  ·exfalso
   have g:=Qh c r h1 h2
   unfold AQ at hs hc hk
   rw[D8 g] at hs hc hk
   exact oz _ hs hc hk
  ·rfl
def Well(L ts:List Yd)(n:Nat):Prop:=L=ts++[⟨Eo,(n:Nat),0,0⟩]/\∀y ∈ ts,y.c=0
def JQ(r:List UInt8):Prop:=∀x y,r=x++35::y->(10:UInt8) ∈ y
theorem JQ.tail{r:List UInt8}(x:List UInt8)(h:JQ (x++r)):JQ r:=λu y e=>h (x++u) y (by rw[e,z18z])
theorem JQ.drop{r:List UInt8}(k:Nat)(h:JQ r):JQ (r.drop k):=JQ.tail (r.take k) (by rw[z13z];exact h)
theorem iZ(p:UInt8->Bool)(r Q:List UInt8)(h:∃c ∈ r,p c=false):runN p (r++Q)=runN p r:=by
 induction r with
 | nil=>obtain⟨c,hc,_⟩:=h;simp at hc
 | cons d q ih=>
  cases e:p d
  ·rw[z1z,GJ e,GJ e]
  ·rw[z1z,GQ e,GQ e,ih]
   obtain⟨c,hc,h⟩:=h
   rcases z5z.1 hc with rfl|hc
   ·rw[e] at h;cases h
   ·exact⟨c,hc,h⟩
theorem AC1(d:UInt8)(n:Nat):∀ (r B:List UInt8) (a:Nat) (ts:List Yd),(d=10\/d=32/\JQ r)->r.length<=n->Well (T r a) ts (a+r.length)->T (r++d::B) a=ts++T B (a+r.length+1):=by
 induction n with
 | zero=>
  intro r B a ts hd hr hw
  have hr0:r=[]:=z16z (by omega)
  subst hr0
  have e:ts=[]:=by
   have h1:=hw.1
   rw[Qe] at h1
   cases ts with
   | nil=>rfl
   | cons y ts=>have:=congrArg List.length h1;simp at this
  subst e
  rw[z12z,z12z,R7 d B a (by rcases hd with rfl|⟨rfl,_⟩ <;> decide)]
  rfl
 | succ n ih=>
  intro r B a ts hd0 hr hw
  cases r with
  | nil=>exact ih [] B a ts hd0 (by simp) hw
  | cons c r=>
   have hle:=JH (c::r)
   obtain⟨hw1,hw2⟩:=hw
   have hst:=Ju (r:=c::r) (a:=a) (by simp)
   by_cases c1:(AQ (c::r)).size=0
   ·exfalso
    rw[if_pos c1,hw1] at hst
    cases ts with
    | nil=>have:=congrArg (λl:List Yd=>(l[0]?).map (·.c)) hst;simp at this
    | cons y ts=>have:=congrArg List.length hst;simp at this
   ·rw[if_neg c1] at hst
    by_cases c2:(AQ (c::r)).code=0
    ·rw[if_neg (by rw[c2];decide)] at hst
     by_cases c3:(AQ (c::r)).t.kind=0
     ·rcases zY c r c1 c2 c3 with rfl|hb
      ·rw[fQ] at hw1
       have hrl:=GK DW r
       have hd:((r++d::B).drop (runN DW (r++d::B)))=r.drop (runN DW r)++d::B/\runN DW (r++d::B)=runN DW r:=by
        have e:runN DW (r++d::B)=runN DW r:=by
         rcases hd0 with rfl|⟨_,hn⟩
         ·clear hw1 hw2 hle c1 c2 c3 hst hr ih hrl
          induction r with
          | nil=>exact GJ (by decide)
          | cons d q ihq=>
           cases e:DW d
           ·rw[z1z,GJ e,GJ e]
           ·rw[z1z,GQ e,GQ e,ihq]
         ·exact iZ DW r _ ⟨10,hn [] r rfl,by decide⟩
        exact⟨by rw[e];exact z9z hrl,e⟩
       rw[z1z,fQ,hd.1,hd.2]
       have hlen:(r.drop (runN DW r)).length=r.length-runN DW r:=z0z ..
       rw[ih (r.drop (runN DW r)) B (a+(runN DW r+1)) ts (hd0.imp id λh=>⟨h.1,(JQ.tail [35] h.2).drop _⟩) (by rw[hlen];simp at hr;omega) ⟨by rw[hw1];congr 3;rw[hlen];simp;omega,hw2⟩]
       congr 2
       rw[hlen];simp;omega
      ·rw[R7 c r a hb] at hw1
       rw[z1z,R7 c _ a hb,ih r B (a+1) ts (hd0.imp id λh=>⟨h.1,JQ.tail [c] h.2⟩) (by simpa using hr) ⟨by rw[hw1];congr 3;simp;omega,hw2⟩]
       congr 2
       simp;omega
     ·rw[if_pos c3,hw1] at hst
      obtain⟨p,hp⟩:∃p,AQ (c::r)=p:=⟨_,rfl⟩
      rw[hp] at hle c1 c2 c3 hst
      have hpo:p=Aj p.t p.size:=by cases p;simp at c2;subst c2;rfl
      cases ts with
      | nil=>
       exfalso
       have h1:=congrArg List.length hst
       have h2:=congrArg (λl:List Yd=>(l[0]?).map (·.a)) hst
       simp at h2
       simp at hle
       omega
      | cons y ts=>
       rw[z1z] at hst
       injection hst with h1 h2
       have hx:(c::r).take p.size++(c::r).drop p.size=c::r:=z13z ..
       have hxl:((c::r).take p.size).length=p.size:=by rw[z14z];omega
       have hloc:AQ ((c::r)++d::B)=p:=by
        have h3:AQ ((c::r).take p.size++(c::r).drop p.size)=Aj p.t ((c::r).take p.size).length:=by rw[hx,hxl,hp];exact hpo
        have hlk:Il ((c::r).drop p.size) ((c::r).drop p.size++d::B):=by
         cases hq:(c::r).drop p.size with
         | nil=>
          rcases hd0 with rfl|⟨rfl,_⟩
          ·exact .inr (.inl rfl)
          ·exact .inr (.inr (.inr rfl))
         | cons e q=>exact .inr (.inr (.inl rfl))
        have h4:=y9 _ _ _ hlk p.t (by intro e;rw[e] at hxl;simp at hxl;omega) c3 h3
        rw[<- z18z,hx,hxl] at h4
        rw[h4];exact hpo.symm
       rw[Ju (r:=c::r++d::B) (by simp),hloc,if_neg c1,if_neg (by rw[c2];decide),if_pos c3]
       have hdl:((c::r).drop p.size).length=(c::r).length-p.size:=z0z ..
       have hd:((c::r)++d::B).drop p.size=(c::r).drop p.size++d::B:=z9z hle
       rw[hd,ih ((c::r).drop p.size) B (a+p.size) ts (hd0.imp id λh=>⟨h.1,h.2.drop _⟩) (by rw[hdl];simp at hr ⊢;omega) ⟨by rw[<- h2];congr 3;rw[hdl];omega,λz hz=>hw2 z (by simp[hz])⟩,<- h1]
       rw[z1z]
       congr 3
       rw[hdl];omega
    ·exfalso
     rw[if_pos c2,hw1] at hst
     cases ts with
     | nil=>have:=congrArg (λl:List Yd=>(l[0]?).map (·.c)) hst;simp at this;exact c2 this.symm
     | cons y ts=>have:=congrArg List.length hst;simp at this
def Ot(k:Nat)(y:Yd):Yd:=if y.c=0 then ⟨y.t,y.a+k,y.c,y.f⟩ else ⟨y.t,y.a,y.c,y.f+k⟩
theorem AC2(k n:Nat):∀ (r:List UInt8) (a:Nat),r.length<=n->T r (a+k)=(T r a).map (Ot k):=by
 induction n with
 | zero=>
  intro r a hr
  have hr0:r=[]:=z16z (by omega)
  subst hr0
  rw[Qe,Qe]
  simp[Ot]
 | succ n ih=>
  intro r a hr
  cases r with
  | nil=>exact ih [] a (by simp)
  | cons c r=>
   rw[Ju (by simp),Ju (r:=c::r) (a:=a) (by simp)]
   have hle:=JH (c::r)
   by_cases c1:(AQ (c::r)).size=0
   ·rw[if_pos c1,if_pos c1]
    simp[Ot]
   ·rw[if_neg c1,if_neg c1]
    by_cases c2:(AQ (c::r)).code=0
    ·have c2':¬ (AQ (c::r)).code≠0:=λh=>h c2
     rw[if_neg c2',if_neg c2']
     have hdl:((c::r).drop (AQ (c::r)).size).length<=n:=by rw[z0z];simp at hr ⊢;omega
     have e:=ih ((c::r).drop (AQ (c::r)).size) (a+(AQ (c::r)).size) hdl
     have e2:a+k+(AQ (c::r)).size=a+(AQ (c::r)).size+k:=by omega
     rw[e2,e]
     split
     ·simp[Ot]
     ·rfl
    ·rw[if_pos c2,if_pos c2]
     simp[Ot,c2]
theorem ACz(n:Nat):∀ (r:List UInt8) (a:Nat),r.length<=n->∃ts z,T r a=ts++[z]/\(∀y ∈ ts,y.c=0/\(a:Int)<=y.a/\y.a<=((a+r.length:Nat):Int))/\(z=⟨Eo,((a+r.length:Nat):Int),0,0⟩\/(z.c≠0/\z.a=0/\(a:Int)<=z.f/\z.f<=((a+r.length:Nat):Int))):=by
 induction n with
 | zero=>
  intro r a hr
  have hr0:r=[]:=z16z (by omega)
  subst hr0
  exact⟨[],_,rfl,by simp,.inl rfl⟩
 | succ n ih=>
  intro r a hr
  cases r with
  | nil=>exact ih [] a (by simp)
  | cons c r=>
   rw[Ju (by simp)]
   have hle:=JH (c::r)
   by_cases c1:(AQ (c::r)).size=0
   ·rw[if_pos c1]
    refine⟨[],_,rfl,by simp,.inr ⟨show (60:Int)≠0 by decide,rfl,z10z _,?_⟩⟩
    show (a:Int)<=_
    omega
   ·rw[if_neg c1]
    by_cases c2:(AQ (c::r)).code=0
    ·rw[if_neg (by rw[c2];decide)]
     have hdl:((c::r).drop (AQ (c::r)).size).length<=n:=by rw[z0z];simp at hr ⊢;omega
     obtain⟨ts,z,h1,h2,h3⟩:=ih ((c::r).drop (AQ (c::r)).size) (a+(AQ (c::r)).size) hdl
     have el:a+(AQ (c::r)).size+((c::r).drop (AQ (c::r)).size).length=a+(c::r).length:=by rw[z0z];omega
     rw[el] at h2 h3
     have h2':∀y ∈ ts,y.c=0/\(a:Int)<=y.a/\y.a<=((a+(c::r).length:Nat):Int):=λy hy=>⟨(h2 y hy).1,by have:=(h2 y hy).2.1;omega,(h2 y hy).2.2⟩
     have h3':z=⟨Eo,((a+(c::r).length:Nat):Int),0,0⟩\/(z.c≠0/\z.a=0/\(a:Int)<=z.f/\z.f<=((a+(c::r).length:Nat):Int)):=by
      rcases h3 with h3|⟨q1,q2,q3,q4⟩
      ·exact .inl h3
      ·exact .inr ⟨q1,q2,by omega,q4⟩
     split
     ·refine⟨_::ts,z,by rw[h1];rfl,?_,h3'⟩
      intro y hy
      rcases z5z.1 hy with rfl|hy
      ·refine⟨rfl,z10z _,?_⟩
       show (a:Int)<=_
       omega
      ·exact h2' y hy
     ·exact⟨ts,z,h1,h2',h3'⟩
    ·rw[if_pos c2]
     refine⟨[],_,rfl,by simp,.inr ⟨c2,rfl,z10z _,?_⟩⟩
     show (a:Int)<=_
     omega
end Go.Proofs.YtjplieobnknnpaaGreatDoor.W
namespace Go.Proofs.YtjplieobnknnpaaGreatDoor.W.Tr
set_option linter.unusedVariables false
set_option linter.unusedSimpArgs false
theorem Zz(r:List UInt8)(h:(AQ r).t.kind=1):AQ r=W.nameP r:=by
 have key:∀p:Pc,p.t.kind≠1->∀q:Pc,(DI p q).t.kind=1->DI p q=q:=by
  intro p hp q hq
  unfold DI at *
  split
  ·rfl
  ·rename_i c
   rw[if_neg c] at hq
   exact absurd hq hp
 have k2:(Cj r).t.kind≠1:=by
  unfold Cj
  split
  ·split
   ·show (5:Int)≠1;decide
   ·show (0:Int)≠1;decide
  ·show (0:Int)≠1;decide
 have k3:(Cr r).t.kind≠1:=by
  unfold Cr
  split
  ·show (0:Int)≠1;decide
  ·split
   ·show (4:Int)≠1;decide
   ·show (0:Int)≠1;decide
 have k4:(DJ r).t.kind≠1:=by
  unfold DJ
  split
  ·rcases M7 (Cc r.length (r.drop 1) 1 []) with g|⟨_,g⟩
   ·rw[g]
    rcases Oy r.length (r.drop 1) 1 [] with⟨n,e⟩|⟨t,n,e⟩
    ·rw[e];show (0:Int)≠1;decide
    ·rw[e];show (6:Int)≠1;decide
   ·rw[g];show (0:Int)≠1;decide
  ·show (0:Int)≠1;decide
 have k5:(EI r).t.kind≠1:=by
  unfold EI
  split
  ·show (3:Int)≠1;decide
  ·show (0:Int)≠1;decide
 have k6:(DI (Cj r) (DI (Cr r) (DI (DJ r) (EI r)))).t.kind≠1:=by
  intro e
  have e1:=key _ k2 _ e
  rw[e1] at e
  have e2:=key _ k3 _ e
  rw[e2] at e
  have e3:=key _ k4 _ e
  rw[e3] at e
  exact k5 e
 have e0:AQ r=DI (W.nameP r) (DI (Cj r) (DI (Cr r) (DI (DJ r) (EI r)))):=key _ (show (0:Int)≠1 by decide) _ h
 have e1:AQ r=W.nameP r:=by
  rw[e0] at h ⊢
  unfold DI at h ⊢
  split
  ·rename_i c
   rw[if_pos c] at h
   exact absurd h k6
  ·rfl
 exact e1
theorem ACl(r:List UInt8)(h:(AQ r).t.kind=1):AQ r=Aj ⟨1,bytesOf (r.take (AQ r).size),0,0⟩ (AQ r).size:=by
 have e1:=Zz r h
 rw[e1] at h ⊢
 unfold W.nameP at h ⊢
 split
 ·rename_i c;rw[if_pos c] at h;exact absurd h (by decide)
 ·rename_i c
  rw[if_neg c] at h
  split
  ·rename_i c2;rw[if_pos c2] at h;exact absurd h (by show ¬ (0:Int)=1;decide)
  ·rename_i c2
   rw[if_neg c2] at h
   show Aj (Gf _) _=Aj ⟨1,bytesOf _,0,0⟩ _
   have hn:Gf (r.take (runN Az r))=⟨1,bytesOf (r.take (runN Az r)),0,0⟩:=by
    have h':(Gf (r.take (runN Az r))).kind=1:=h
    unfold Gf at h' ⊢
    split
    ·rename_i c3;rw[if_pos c3] at h';exact absurd h' (by show ¬ (5:Int)=1;decide)
    ·rename_i c3
     rw[if_neg c3] at h'
     split
     ·rename_i c4;rw[if_pos c4] at h';exact absurd h' (by show ¬ (5:Int)=1;decide)
     ·rename_i c4
      rw[if_neg c4] at h'
      split
      ·rename_i c5;rw[if_pos c5] at h';exact absurd h' (by show ¬ (2:Int)=1;decide)
      ·rfl
   rw[hn]
   rfl
def Rn{α:Type}(F:Nat->Pm α)(s:Cs)(r:Rs α):Prop:=∃n,∀m,n<=m->F m s=some r
section
variable {α β:Type} {F:Nat->Pm α} {s:Cs} {y:Yd} {L:List Yd}
end
section
variable {x y:Fo} {ys:List Yd} {z:Yd} {L:List Yd} {o:Int}
end
section
variable {x y:Fo} {n:Nd}
end
section
variable {n:Nd}
end
section
variable {n:Nd} {x y v c b d l:Fo}
end
section
variable {n:Nd} {x y v c b f t:Fo}
end
section
variable {n lb:Nd} {x y v c b f t l:Fo}
end
section
variable {s:Cs} {y:Yd}
theorem Wv.look{Q:Yd->Cs->Prop}(h:∀y,Tr.look s=.ok y->Q y s):Wp BJ s Q:=by
 intro b s2 e
 unfold BJ at e
 cases hl:Tr.look s with
 | error _=>rw[hl] at e;cases e
 | ok y=>rw[hl] at e;cases e;exact h _ hl
end
theorem rU(r:List UInt8)(h:r.take 2=ER)(h2:(Du (r.take (DC r))).2=0):0<=(Du (r.take (DC r))).1/\(Du (r.take (DC r))).1<=9218868437227405312:=by
 have hd:2<=DC r:=by unfold DC;omega
 obtain⟨q,e⟩:∃q,r.take (DC r)=48::120::q:=by
  have e1:(r.take (DC r)).take 2=ER:=by rw[List.take_take,Nat.min_eq_left hd,h]
  match hq:r.take (DC r),e1 with
  | [],e1=>cases e1
  | [a],e1=>exact absurd e1 (by intro h;cases h)
  | a::b::q,e1=>
   have e2:[a,b]=ER:=e1
   have e3:[a,b]=[48,120]:=e2
   injection e3 with x1 x2
   injection x2 with x2
   exact⟨q,by rw[x1,x2]⟩
 rw[e] at h2 ⊢
 have n1:¬ (48::120::q:List UInt8)=Gb:=by intro h;injection h with h;exact absurd h (by decide)
 have n2:¬ (48::120::q:List UInt8)=Dw:=by intro h;injection h with h;exact absurd h (by decide)
 have n3:¬ (48::120::q:List UInt8)=45::Dw:=by intro h;injection h with h;exact absurd h (by decide)
 have e4:Du (48::120::q)=if 64<(48::120::q:List UInt8).length then (0,2) else Ii 0 (48::120::q):=by
  unfold Du
  rw[if_neg n1,if_neg n2,if_neg n3]
  rfl
 rw[e4] at h2 ⊢
 split
 ·exact⟨by omega,by omega⟩
 ·rename_i c
  rw[if_neg c] at h2
  unfold Ii at h2 ⊢
  simp only at h2 ⊢
  cases hb:readBody q with
  | none=>rw[hb] at h2;exact absurd h2 (by show ¬ (20:Int)=0;decide)
  | some p=>
   obtain⟨N,low⟩:=p
   rw[hb] at h2
   simp only at h2 ⊢
   cases hx:DV N low with
   | none=>rw[hx] at h2;exact absurd h2 (by show ¬ (21:Int)=0;decide)
   | some a=>
    obtain⟨r0,r1⟩:=Wj _ _ _ hx
    simp only
    omega
theorem qh(d:List UInt8):0<=(FQ false d).1:=by
 unfold FQ
 split
 ·simp only[z11z,if_false]
  split
  ·exact Int.natCast_nonneg _
  ·exact z10z _
 ·exact z10z _
def Mr(M:Nat)(t:Tk):Prop:=EW t/\t.text.size<=M/\(-9223372036854775808<=t.int/\t.int<=9223372036854775807)/\0<=t.bits/\t.bits<18446744073709551616
theorem UJ{M:Nat}{k:Int}{x:ByteArray}(h:k=2\/k=3\/k=6)(hx:x.size<=M):Mr M ⟨k,x,0,0⟩:=by
 refine⟨⟨λe=>?_,λ_=>⟨rfl,rfl⟩,λe=>?_,λe=>?_,λ_=>⟨rfl,rfl⟩⟩,hx,by simp,by simp,by simp⟩
 all_goals (simp only at e;omega)
theorem Ue{M:Nat}{b:Int}(h0:0<=b)(h:b<=9218868437227405312\/b=9221120237041090560):Mr M ⟨5,⟨#[]⟩,0,b⟩:=by
 refine⟨⟨λe=>?_,λe=>?_,λe=>?_,λ_=>⟨rfl,rfl,h⟩,λe=>?_⟩,Nat.zero_le _,by simp,h0,by simp only;omega⟩
 all_goals (simp only at e;omega)
theorem ABT{M:Nat}{i:Int}(h0:0<=i)(h:i<=9223372036854775807):Mr M ⟨4,⟨#[]⟩,i,0⟩:=by
 refine⟨⟨λe=>?_,λe=>?_,λ_=>⟨rfl,h0,rfl⟩,λe=>?_,λe=>?_⟩,Nat.zero_le _,by simp only;omega,by simp,by simp⟩
 all_goals (simp only at e;omega)
theorem aJ:∀ (f:Nat) (r:List UInt8) (k:Nat) (acc:List UInt8) (t:Tk) (m:Nat),Cc f r k acc=Aj t m->t.text.size+k<=acc.length+m
 | 0,r,k,acc,t,m,h=>(Jk (n:=k) (m:=m) (t:=t) (by simpa [Cc] using h)).elim
 | f+1,[],k,acc,t,m,h=>(Jk ((Lg (f+1) k acc).symm.trans h)).elim
 | f+1,c::q,k,acc,t,m,h=>by
  by_cases c1:c=34
  ·have e:=(Js (f+1) k c q acc (by omega) c1).symm.trans h
   have e1:=congrArg Pc.size e
   have e2:=congrArg (λp=>p.t.text) e
   have e1:k+1=m:=e1
   have e2:bytesOf acc=t.text:=e2
   rw[<- e2]
   show acc.length+k<=_
   omega
  ·by_cases c2:(Ar (c::q)).2=0
   ·exact(Jk ((J7 (f+1) k c q acc (by omega) c1 c2).symm.trans h)).elim
   ·have h3:=aJ f _ _ _ t m ((Jv f k c q acc c1 c2).symm.trans h)
    rw[z6z] at h3
    simp only[z2z,z3z] at h3
    omega
def ML(r:List UInt8)(p:Pc):Prop:=p.size≠0->p.code=0->p.t.kind≠0->p.t.kind≠1->Mr p.size p.t
theorem Ol{r:List UInt8}{a b:Pc}(ha:ML r a)(hb:ML r b):ML r (DI a b):=by
 unfold DI
 split
 ·exact hb
 ·exact ha
theorem Nv(r:List UInt8):ML r Cg:=λh=>absurd rfl h
theorem Oe(r:List UInt8)(n:Nat)(c:Int):ML r (DF n c):=λ_ _ h=>absurd rfl h
theorem pK(r:List UInt8)(hr:r.length<=6000):ML r (AQ r):=by
 unfold AQ
 refine Ol (λ_ _ h=>absurd rfl h) (Ol ?_ (Ol ?_ (Ol ?_ (Ol ?_ ?_))))
 ·unfold W.nameP
  split
  ·exact Nv r
  ·split
   ·exact Oe r _ _
   ·intro _ _ _ hk
    have hle:=GK Az r
    have hs:(bytesOf (r.take (runN Az r))).size<=runN Az r:=by
     show (r.take (runN Az r)).length<=_
     rw[z14z]
     omega
    show Mr (runN Az r) (Gf _)
    unfold Aj Gf at hk
    simp only at hk
    unfold Gf
    split
    ·exact Ue (by omega) (.inl (by omega))
    ·split
     ·exact Ue (by omega) (.inr rfl)
     ·split
      ·exact UJ (.inl rfl) hs
      ·rename_i c1 c2 c3
       rw[if_neg c1,if_neg c2,if_neg c3] at hk
       exact absurd rfl hk
 ·unfold Cj
  split
  ·rename_i c
   split
   ·rename_i c2
    intro _ _ _ _
    obtain⟨h1,h2⟩:=rU r c c2
    exact Ue h1 (.inl h2)
   ·exact Oe r _ _
  ·exact Nv r
 ·unfold Cr
  split
  ·exact Nv r
  ·rename_i c
   split
   ·rename_i c2
    intro _ _ _ _
    have hrg:=ABt (r.take (runN AV r)) (Dg (r.take (runN AV r))).1 (Dg (r.take (runN AV r))).2 rfl
    have hpos:0<=(Dg (r.take (runN AV r))).1:=by
     have hall:∀x ∈ r.take (runN AV r),AV x=true:=by
      intro x hx
      have e:r.take (runN AV r)=r.takeWhile AV:=mg AV r
      rw[e] at hx
      exact List.all_eq_true.1 (List.all_takeWhile (l:=r) (p:=AV)) x hx
     rw[Y6 _ hall]
     split
     ·simp
     ·exact qh _
    exact ABT hpos (by omega)
   ·exact Oe r _ _
 ·unfold DJ
  split
  ·rcases M7 (Cc r.length (r.drop 1) 1 []) with g|⟨_,g⟩
   ·rw[g]
    rcases Oy r.length (r.drop 1) 1 [] with⟨n,e⟩|⟨t,n,e⟩
    ·rw[e];exact Oe r _ _
    ·rw[e]
     intro _ _ _ _
     have:=aJ _ _ _ _ _ _ e
     exact UJ (.inr (.inr rfl)) (by show t.size<=n;simp only[z3z] at this;omega)
   ·rw[g];exact Oe r _ _
  ·exact Nv r
 ·unfold EI
  split
  ·rename_i m _
   intro _ _ _ _
   exact UJ (.inr (.inl rfl)) (z4z _)
  ·exact Nv r
theorem ACI(x Y:List UInt8)(b:ByteArray)(hx:x≠[])(hp:AQ (x++Y)=Aj ⟨1,b,0,0⟩ x.length):AQ x=Aj ⟨1,b,0,0⟩ x.length:=by
 have hn:=Zz (x++Y) (by rw[hp];rfl)
 have h:=hn.symm.trans hp
 cases x with
 | nil=>exact absurd rfl hx
 | cons c x=>
  have hpos:¬ (c::x).length=0:=by simp
  have g2:¬ (W.nameP (c::x++Y)).size=0:=by rw[h];exact hpos
  have g1:(Eb (c::x++Y)).size=0:=by
   by_cases g:(Eb (c::x++Y)).size=0
   ·exact g
   ·exfalso
    have h0:=hp
    unfold AQ at h0
    rw[Gj g] at h0
    have:=congrArg (λp=>p.t.kind) h0
    exact absurd this (by show ¬ (0:Int)=1;decide)
  have hz:=(Tp c x Y [] (.inl rfl)).2 g2 (congrArg Pc.size h)
  have hg0:=Va c x Y [] g1
  rw[List.append_nil] at hz hg0
  unfold AQ
  rw[D8 hg0,Gj (by rw[hz];exact g2),hz,h]
theorem mE(r:List UInt8)(hr:r.length<=6000)(h1:(AQ r).size≠0)(h2:(AQ r).code=0)(h3:(AQ r).t.kind≠0):Mr (AQ r).size (AQ r).t:=by
 by_cases hk:(AQ r).t.kind=1
 ·have hp:=ACl r hk
  have hle:=JH r
  obtain⟨n,hn⟩:∃n,(AQ r).size=n:=⟨_,rfl⟩
  rw[hn] at hp h1 hle ⊢
  rw[hp]
  have hx:(r.take n)++(r.drop n)=r:=z13z ..
  have hxl:(r.take n).length=n:=by rw[z14z];omega
  have hpx:AQ (r.take n)=Aj ⟨1,bytesOf (r.take n),0,0⟩ (r.take n).length:=by
   exact ACI (r.take n) (r.drop n) _ (by intro e;rw[e] at hxl;simp at hxl;omega) (by rw[hx,hxl];exact hp)
  have hnm:nameP (bytesOf (r.take n))=true:=by
   unfold nameP
   have:=O7 (r.take n) ⟨1,bytesOf (r.take n),0,0⟩ hpx (by omega) (by omega) (by show ¬ (1:Int)=0;decide)
   rw[show (bytesOf (r.take n)).data.toList=r.take n from rfl,this]
   simp
  refine⟨⟨λ_=>⟨hnm,rfl,rfl⟩,λe=>?_,λe=>?_,λe=>?_,λe=>?_⟩,?_,by simp[Aj],by simp[Aj],by simp[Aj]⟩
  ·simp only[Aj] at e;omega
  ·simp only[Aj] at e;omega
  ·simp only[Aj] at e;omega
  ·simp only[Aj] at e;omega
  ·show (r.take n).length<=n
   omega
 ·exact pK r hr h1 h2 h3 hk
theorem YO(n:Nat):∀ (r:List UInt8) (a:Nat),r.length<=n->r.length<=6000->(∀y ∈ T r a,Ih y/\(y.c=0->EW y.t))/\((T r a).map (λy=>y.t.text.size)).sum<=r.length:=by
 have no:∀ (a c f:Int),Ih ⟨Cy,a,c,f⟩:=λa c f=>⟨(by show (⟨#[]⟩:ByteArray).size<=6000;decide),(by show (-9223372036854775808:Int)<=0/\(0:Int)<=9223372036854775807;decide),(by show (0:Int)<=0;decide),(by show (0:Int)<18446744073709551616;decide)⟩
 have ne:∀ (a c f:Int),Ih ⟨Eo,a,c,f⟩:=λa c f=>⟨(by show (⟨#[]⟩:ByteArray).size<=6000;decide),(by show (-9223372036854775808:Int)<=0/\(0:Int)<=9223372036854775807;decide),(by show (0:Int)<=0;decide),(by show (0:Int)<18446744073709551616;decide)⟩
 have ge:EW Eo:=⟨λe=>absurd e (by decide),λe=>absurd e (by decide),λe=>absurd e (by decide),λe=>absurd e (by decide),λe=>absurd e (by decide)⟩
 induction n with
 | zero=>
  intro r a hr _
  have hr0:r=[]:=z16z (by omega)
  subst hr0
  rw[Qe]
  refine⟨λy hy=>?_,by show 0+0<=0;omega⟩
  rw[z21z.1 hy]
  exact⟨ne _ _ _,λ_=>ge⟩
 | succ n ih=>
  intro r a hr h6
  cases r with
  | nil=>exact ih [] a (by simp) (by simp)
  | cons c r=>
   rw[Ju (by simp)]
   have hle:=JH (c::r)
   have hdl:¬ (AQ (c::r)).size=0->((c::r).drop (AQ (c::r)).size).length<=n:=λh=>by rw[z0z];simp at hr ⊢;omega
   have hd6:((c::r).drop (AQ (c::r)).size).length<=6000:=by rw[z0z];omega
   split
   ·refine⟨λy hy=>?_,by show 0+0<=_;omega⟩
    rw[z21z.1 hy]
    exact⟨no _ _ _,λe=>absurd e (by show ¬ (60:Int)=0;decide)⟩
   ·rename_i c1
    split
    ·rename_i c2
     refine⟨λy hy=>?_,by show 0+0<=_;omega⟩
     rw[z21z.1 hy]
     exact⟨no _ _ _,λe=>absurd e c2⟩
    ·rename_i c2
     obtain⟨i1,i2⟩:=ih ((c::r).drop (AQ (c::r)).size) (a+(AQ (c::r)).size) (hdl c1) hd6
     rw[z0z] at i2
     split
     ·rename_i c3
      have ht:=mE (c::r) h6 c1 (by simpa using c2) c3
      refine⟨λy hy=>?_,?_⟩
      ·rcases z5z.1 hy with rfl|hy
       ·exact⟨⟨z7z ht.2.1 (by omega),ht.2.2.1,ht.2.2.2⟩,λ_=>ht.1⟩
       ·exact i1 y hy
      ·rw[List.map_cons,List.sum_cons]
       have:=ht.2.1
       simp only
       omega
     ·exact⟨i1,by omega⟩
theorem UD:∀f:Fo,∀p ∈ AJ f,p.2<=(AJ f).length
 | .nil,p,hp=>by cases hp
 | .cons n ks r,p,hp=>by
  simp only[AJ,z5z,List.mem_append] at hp
  simp only[AJ,z2z,z6z]
  rcases hp with rfl|hp|hp
  ·have:=MF ks
   simp only
   omega
  ·have:=UD ks p hp
   omega
  ·have:=UD r p hp
   omega
theorem ABm(l:List UInt8)(hl:l.length<=6000){fo:Fo}{s':Cs}(h:Ends l (.ok (fo,s'))):∃u,fo=Fo.one ⟨1,0,⟨#[]⟩,0,0⟩ u/\Ie (AJ fo)=true/\(∀p ∈ AJ fo,QG p/\0<=p.1.bits/\p.1.bits<18446744073709551616)/\(∃fuel,EF (EJ GR) (AJ fo) fuel [tK] 0 []=some (fV u)):=by
 obtain⟨n,h⟩:=h
 have hsl:=Pp l
 have hrow:=Ya h
 rw[WI l (by omega)] at h hsl hrow
 obtain⟨hT,hS⟩:=YO l.length l 0 (z4z _) hl
 obtain⟨⟨u,rfl,hu⟩,_⟩:=Y9 n (.pg .nil) ⟨T l 0,0⟩ (λy hy c=>(hT y hy).2 c) Wt.unil fo s' h
 obtain⟨⟨_,hall,_⟩,_⟩:=Uo n (.pg .nil) ⟨T l 0,0⟩ (λy hy=>(hT y hy).1) trivial _ s' h
 have er:AJ (Fo.one ⟨1,0,⟨#[]⟩,0,0⟩ u)=(⟨1,0,⟨#[]⟩,0,0⟩,u.len)::AJ u:=by simp[Fo.one,AJ]
 rw[er,z2z] at hrow
 simp only at hrow hsl
 have hN:(AJ u).length<=6010:=by omega
 obtain⟨hIs,hpr⟩:=mF hu hall hN
 refine⟨u,rfl,hIs,?_,hpr⟩
 rw[er]
 intro p hp
 rcases z5z.1 hp with rfl|hp
 ·have:=MF u
  exact⟨⟨by show (1:Int)<=1/\(1:Int)<=31;decide,Nat.zero_le _,by show u.len<=1000000;omega,by show (-9223372036854775808:Int)<=0/\(0:Int)<=9223372036854775807;decide⟩,by show (0:Int)<=0;decide,by show (0:Int)<18446744073709551616;decide⟩
 ·obtain⟨hk,hs,hi,hbb⟩:=Qg hall p hp
  have:=UD u p hp
  exact⟨⟨hk,by omega,by omega,hi⟩,hbb.1,hbb.2⟩
end Go.Proofs.YtjplieobnknnpaaGreatDoor.W.Tr
