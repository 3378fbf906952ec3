import Derived.Test.YtgchnkgolclmgaaGreatDoorKA
open List renaming getElem?_append_right → aL, getElem?_take → dI, getElem?_eq_getElem → gI, mem_of_getElem? → dR, mem_of_find?_eq_some → gL, getElem?_eq_some_iff → gy
open Array renaming getElem?_toList → aY
open Nat renaming le_refl → ay
open Go.World renaming alloc_heap_new → eU
open Go.RowKit.Below renaming refl → aH
open Bool renaming and_eq_true → dQ
open Go.IntKind renaming i64 → bO, wrap_i64 → bY
open Go.Proofs.Tryz
set_option maxRecDepth 1000000
set_option maxHeartbeats 8000000
namespace Go.Proofs.YtgchnkgolclmgaaGreatDoor.W.Tr
open Go.ChangeShapes Go.WideShapes Go.RowKit Go.Shelf
set_option linter.unusedVariables false
set_option linter.unusedSimpArgs false
def nameP(s:ByteArray):Bool:=match gU s.data.toList with
 | [y,z]=>decide (y.c=0)&&decide (z.c=0)&&(y.t.kind==1)&&(y.t.text.toList==s.toList)
 | _=>false
theorem Im(s:ByteArray)(y:Yd)(h:(gU s.data.toList).find? (λy=>y.c != 0)=some y):nameP s=false:=by
 have h1:=List.find?_some h
 have h2:=gL h
 unfold nameP
 split
 ·rename_i a b e
  rw[e] at h2
  simp at h1 h2
  rcases h2 with rfl|rfl <;> simp[h1]
 ·rfl
theorem Il(s:ByteArray)(h:¬ (gU s.data.toList).length=2):nameP s=false:=by
 unfold nameP
 split
 ·rename_i a b e
  rw[e] at h
  exact absurd rfl h
 ·rfl
theorem MG(s:ByteArray)(hs:s.size<=1000000)(w:World)(ht:Tabs w)(hm:MarksIn w):Calls prog 123 #[.string s] w λe w'=>e=.returned (.bool (nameP s))/\Below w.heap.size w w':=by
 have ca:=Ww s hs w ht hm
 clear ht hm
 cases hf:(gU s.data.toList).find? (λy=>y.c != 0) with
 | some y=>
  rw[Im s y hf]
  have cb:Calls prog 150 #[.string s] w λe w'=>Below w.heap.size w w'/\e=.returned (.tuple #[.slice none 0 0,.agg #[.int .i64 y.c,.int .i64 y.f]]):=by
   refine ca.mono ?_
   rintro e w' ⟨hB,h⟩
   rcases h with⟨z,h1,h2⟩|⟨h0,_⟩
   ·obtain rfl:=Option.some.inj (hf.symm.trans h1)
    exact⟨hB,h2⟩
   ·have:=List.find?_some hf
    rw[h0 y (gL hf)] at this
    cases this
  clear ca hf
  go_enter func123,ntmps123
  go_wp2_with (go_at_call 150;(with_reducible refine cb.mono ?_);rintro e w2 ⟨hB2,rfl⟩;(have HB:=hid hB2);clear hB2 cb)
  go_ret
  exact⟨rfl,HB.out.alloc HB.out.size _⟩
 | none=>
  have cb:Calls prog 150 #[.string s] w λe w'=>Below w.heap.size w w'/\∃o cap,e=.returned (.tuple #[.slice o (gU s.data.toList).length cap,.agg #[.int .i64 0,.int .i64 0]])/\(∀y ∈ gU s.data.toList,y.c=0)/\w'.ownsRow w.heap.size 36 5 (.slice o (gU s.data.toList).length cap) (gU s.data.toList).length (mY (gU s.data.toList)):=by
   refine ca.mono ?_
   rintro e w' ⟨hB,h⟩
   rcases h with⟨z,h1,h2⟩|⟨h0,v,he,hown⟩
   ·rw[hf] at h1;cases h1
   ·obtain⟨o,cap,rfl⟩:=aI hown
    exact⟨hB,o,cap,he,h0,hown⟩
  clear ca hf
  by_cases h2:(gU s.data.toList).length=2
  ·obtain⟨y,z,hY⟩:∃y z,gU s.data.toList=[y,z]:=by
    match hh:gU s.data.toList,h2 with
    | [y,z],_=>exact⟨y,z,rfl⟩
   clear h2
   have hp:∀y' ∈ gU s.data.toList,y'.c=0->True:=λ_ _ _=>trivial
   obtain⟨q,hq⟩:∃q,nameP s=q:=⟨_,rfl⟩
   rw[hq]
   unfold nameP at hq
   rw[hY] at hq cb
   simp only[List.length_cons,List.length_nil,Nat.reduceAdd] at cb
   simp only at hq
   clear hp hY
   obtain⟨k1,hk1⟩:∃k,(y.t.kind==1)=k:=⟨_,rfl⟩
   obtain⟨k2,hk2⟩:∃k,(y.t.text.toList==s.toList)=k:=⟨_,rfl⟩
   rw[hk1,hk2] at hq
   have key:Calls prog 123 #[.string s] w λe w'=>(y.c=0/\z.c=0)/\e=.returned (.bool (k1&&k2))/\Below w.heap.size w w':=by
    cases k1 <;> cases k2
    all_goals
     go_enter func123,ntmps123
     go_wp2_with (go_at_call 150;(with_reducible refine cb.mono ?_);rintro e w2 ⟨hB2,o,cap,rfl,h0,hown⟩;(have HB:=hid hB2);(have H0:=hid h0);(rcases hown.2 with⟨e1,_⟩|⟨g,cap',cur,e1,e2,e3,e4,e5,e6,e7⟩);(cases e1);(simp only[Value.slice.injEq,true_and] at e1);(obtain⟨rfl,rfl⟩:=e1);(have hl:=(Array.getElem?_eq_some_iff.1 e3).1);(have d:∀k,k<10->(w2.alloc (.cells #[.int .i64 0,.int .i64 0] 25)).cell? ⟨g,k,none⟩=(mY [y,z])[k]?:=λk hk=>by rw[cell_of_row _ g k _ _ _ ((Below.heap_alloc _ _ _ hl).trans e3),<- e7,dI,if_pos (by simpa using hk),aY]);(have d0:(w2.alloc (.cells #[.int .i64 0,.int .i64 0] 25)).cell? ⟨g,0,none⟩=some (.int .i64 y.t.kind):=d 0 (by decide));(have d2:(w2.alloc (.cells #[.int .i64 0,.int .i64 0] 25)).cell? ⟨g,2,none⟩=some (.string y.t.text):=d 2 (by decide));(have g4:=hid e4);clear hB2 cb h0 hown d e2 e3 e4 e5 e6 e7)
     go_ret
     exact⟨⟨H0.out y (by simp),H0.out z (by simp)⟩,by first|rfl|simp_all,HB.out.alloc HB.out.size _⟩
   refine key.mono ?_
   rintro e w' ⟨⟨h1,h2⟩,h3,h4⟩
   refine⟨?_,h4⟩
   rw[h3,<- hq,h1,h2]
   simp
  ·rw[Il s h2]
   have b2:(((gU s.data.toList).length:Int)==2)=false:=by
    have:¬ ((gU s.data.toList).length:Int)=2:=by omega
    simpa using this
   generalize (gU s.data.toList).length=n at *
   generalize mY (gU s.data.toList)=xs at *
   have cc:Calls prog 150 #[.string s] w λe w'=>Below w.heap.size w w'/\∃o cap,e=.returned (.tuple #[.slice o n cap,.agg #[.int .i64 0,.int .i64 0]]):=cb.mono (by rintro e w' ⟨hB,o,cap,he,_⟩;exact⟨hB,o,cap,he⟩)
   clear cb h2
   go_enter func123,ntmps123
   go_wp2_with (go_at_call 150;(with_reducible refine cc.mono ?_);rintro e w2 ⟨hB2,o,cap,rfl⟩;(have HB:=hid hB2);clear hB2 cc)
   go_ret
   exact⟨rfl,HB.out.alloc HB.out.size _⟩
def KU(what:Int)(t:ByteArray):Bool:=if what=1 then nameP t else if what=2 then (t.toList==[])||nameP t else if what=3 then comp t||decide (¬tight t=0) else if what=4 then (t.toList==[45])||(t.toList==[126]) else if what=5 then true else (t.toList==[])
theorem Dw(what:Int)(s:ByteArray)(hs:s.size<=1000000)(w:World)(ht:Tabs w)(hm:MarksIn w):Calls prog 85 #[.int .i64 what,.string s] w λe w'=>e=.returned (.bool (KU what s))/\Below w.heap.size w w':=by
 have cn:=MG s hs w ht hm
 have cc:=xG s w
 have ct:=Fe s w
 clear ht hm
 unfold KU
 generalize nameP s=nm at *
 generalize comp s=cp at *
 by_cases h1:what=1
 ·subst h1
  rw[if_pos rfl]
  go_enter func85,ntmps85
  go_wp2_with (go_at_call 123;(with_reducible refine cn.mono ?_);rintro e w2 ⟨rfl,hB⟩;(have HB:=hid hB);clear hB)
  go_ret
  exact⟨rfl,HB.out⟩
 rw[if_neg h1]
 have b1:(what==1)=false:=by simpa using h1
 by_cases h2:what=2
 ·subst h2
  rw[if_pos rfl]
  cases h:(s.toList==[])
  ·go_enter func85,ntmps85
   go_wp2_with (go_at_call 123;(with_reducible refine cn.mono ?_);rintro e w2 ⟨rfl,hB⟩;(have HB:=hid hB);clear hB)
   go_ret
   exact⟨by simp,HB.out⟩
  ·go_enter func85,ntmps85
   go_wp2_with fail
   go_ret
   exact⟨by simp,aH _ _⟩
 rw[if_neg h2]
 have b2:(what==2)=false:=by simpa using h2
 by_cases h3:what=3
 ·subst h3
  rw[if_pos rfl]
  cases cp
  ·by_cases ht0:tight s=0
   ·rw[ht0] at ct ⊢
    go_enter func85,ntmps85
    go_wp2_with ((with_reducible (apply Calls.mono;first|exact cc|exact ct));rintro e w2 ⟨rfl,hw⟩;(have hw':=hw.symm);subst hw';clear hw)
    go_ret
    exact⟨by simp,aH _ _⟩
   ·have b0:(((tight s:Nat):Int)==0)=false:=by
     have:¬ ((tight s:Nat):Int)=0:=by omega
     simpa using this
    have b00:(((tight s:Nat):Int)!=0)=true:=by simp[bne,b0]
    go_enter func85,ntmps85
    go_wp2_with ((with_reducible (apply Calls.mono;first|exact cc|exact ct));rintro e w2 ⟨rfl,hw⟩;(have hw':=hw.symm);subst hw';clear hw)
    go_ret
    exact⟨by simp[ht0],aH _ _⟩
  ·go_enter func85,ntmps85
   go_wp2_with (go_at_call 124;(with_reducible refine cc.mono ?_);rintro e w2 ⟨rfl,hw⟩;(have hw':=hw.symm);subst hw';clear hw)
   go_ret
   exact⟨by simp,aH _ _⟩
 rw[if_neg h3]
 have b3:(what==3)=false:=by simpa using h3
 clear cn cc ct
 by_cases h4:what=4
 ·subst h4
  rw[if_pos rfl]
  cases h:(s.toList==[45])
  ·go_enter func85,ntmps85
   go_wp2_with fail
   go_ret
   exact⟨by simp,aH _ _⟩
  ·go_enter func85,ntmps85
   go_wp2_with fail
   go_ret
   exact⟨by simp,aH _ _⟩
 rw[if_neg h4]
 have b4:(what==4)=false:=by simpa using h4
 by_cases h5:what=5
 ·subst h5
  rw[if_pos rfl]
  go_enter func85,ntmps85
  go_wp2_with fail
  go_ret
  exact⟨rfl,aH _ _⟩
 rw[if_neg h5]
 have b5:(what==5)=false:=by simpa using h5
 go_enter func85,ntmps85
 go_wp2_with fail
 go_ret
 exact⟨by simp,aH _ _⟩
def nv(p:Nd × Nat):Value:=dJ p.1.kind p.1.a (p.2:Nat) p.1.text p.1.int p.1.bits
def zM(p:Nd × Nat):Bool:=decide ((l8 p.1.kind).least<=(p.2:Nat))&&decide (((p.2:Nat):Int)<=(l8 p.1.kind).most)&&KU (l8 p.1.kind).text p.1.text&&GV p.1.kind p.1.int p.1.bits
theorem Mc(p:Nd × Nat)(hp:zM p=true)(hs:p.1.text.size<=1000000)(w:World)(ht:Tabs w)(hm:MarksIn w):Calls prog 57 #[nv p] w λe w'=>e=.returned (.bool true)/\Below w.heap.size w w':=by
 obtain⟨⟨k,a,t,i,b⟩,c⟩:=p
 have cr:=rM k
 have cn:=Rz k a (c:Nat) t i b
 have ct:=λ(what:Int) (w:World) (ht:Tabs w) (hm:MarksIn w)=>Dw what t hs w ht hm
 simp only[zM,dQ,decide_eq_true_eq] at hp
 obtain⟨⟨⟨h1,h2⟩,h3⟩,h4⟩:=hp
 unfold nv
 simp only
 generalize l8 k=r at *
 obtain⟨r0,r1,r2,r3⟩:=r
 simp only at h1 h2 h3
 have ct1:∀w,Tabs w->MarksIn w->Calls prog 85 #[.int .i64 r1,.string t] w λe w'=>e=.returned (.bool true)/\Below w.heap.size w w':=by
  intro w ht hm
  have:=ct r1 w ht hm
  rw[h3] at this
  exact this
 rw[h4] at cn
 unfold dJ at cn ⊢
 unfold Kj at cr
 simp only at cr
 clear ct h3 h4 hs
 have bw:Below w.heap.size w (w.alloc (.cells #[.int .i64 k,.int .i64 a,.int .i64 (c:Nat),.string t,.int .i64 i,.int .u64 b] 31)):=(aH _ w).alloc (ay _) _
 have HT:=hid ht
 have HM:=hid hm
 clear ht hm
 go_enter func57,ntmps57
 go_wp2_with (first|(go_at_call 84;(with_reducible refine(cr _).mono ?_);rintro e w2 ⟨rfl,hB2⟩;(have hb2:=bw.trans (hB2.mono bw.size));(have hn:=(hB2.block w.heap.size (by simp)).trans (eU w _));(have hb3:Below w2.heap.size w2 (w2.alloc (.cells #[.int .i64 r0,.int .i64 r1,.int .i64 r2,.int .i64 r3] 123)):=(aH _ w2).alloc (ay _) _);(have hn2:=aF hn hb3);(have q0:=aA hn2 0);(have q1:=aA hn2 1);(have q2:=aA hn2 2);(have q3:=aA hn2 3);(have q4:=aA hn2 4);(have q5:=aA hn2 5);simp only[List.getElem?_toArray,List.getElem?_cons_succ,List.getElem?_cons_zero] at q0 q1 q2 q3 q4 q5;(have HB:=hid (hb2.trans (hb3.mono hb2.size)));clear hB2 hb2 hb3 hn hn2)|(go_at_call 85;(with_reducible refine(ct1 _ (HT.out.below HB.out) (HM.out.below HB.out)).mono ?_);rintro e w5 ⟨rfl,uS⟩;(have Xf:=hid (HB.out.trans (uS.mono HB.out.size)));(have s0:=It.eZ uS q0);(have s1:=It.eZ uS q1);(have s2:=It.eZ uS q2);(have s3:=It.eZ uS q3);(have s4:=It.eZ uS q4);(have s5:=It.eZ uS q5);clear uS)|(go_at_call 86;(with_reducible refine(cn _).mono ?_);rintro e w6 ⟨rfl,MZ⟩;(have XO:=hid (Xf.out.trans (MZ.mono Xf.out.size)));clear MZ))
 go_ret
 exact⟨rfl,XO.out⟩
def NR(W:World)(v:Value)(L:List (Nd × Nat)):Prop:=∃g cap,v=.slice (some ⟨g,0,none⟩) L.length cap/\L.length<=1000000/\∀ (i:Nat) (p:Nd × Nat),L[i]? = some p->∀j:Nat,j<6->W.cell? ⟨g,i*6+j,none⟩=(qM p)[j]?
theorem NR.below{W W':World}{v:Value}{L:List (Nd × Nat)}(h:NR W v L){B:Nat}(hB:Below B W W')(hb:∀k,v.ownBlock=some k->k<B):NR W' v L:=by
 obtain⟨g,cap,rfl,h1,h2⟩:=h
 refine⟨g,cap,rfl,h1,λi p hp j hj=>?_⟩
 have:=h2 i p hp j hj
 rw[<- this]
 exact hB.cell (p:=⟨g,_,none⟩) (hb g rfl)
theorem Km(L:List (Nd × Nat))(i:Nat)(p:Nd × Nat)(hp:L[i]? = some p)(j:Nat)(hj:j<6):(eH L)[i*6+j]? = (qM p)[j]?:=by
 induction L generalizing i with
 | nil=>simp at hp
 | cons q L ih=>
  have e:eH (q::L)=(qM q).toList++eH L:=by simp[eH]
  have hl:(qM q).toList.length=6:=rfl
  rw[e]
  cases i with
  | zero=>
   simp at hp
   subst hp
   rw[Nat.zero_mul,Nat.zero_add,List.getElem?_append_left (by omega),aY]
  | succ i=>
   rw[aL (by omega),hl,show (i+1)*6+j-6=i*6+j by omega]
   exact ih i (by simpa using hp)
theorem QI{W:World}{B:Nat}{v:Value}{L:List (Nd × Nat)}(h:W.ownsRow B 31 6 v L.length (eH L))(h0:0<L.length)(hl:L.length<=1000000):NR W v L:=by
 rcases h.2 with⟨_,e0⟩|⟨g,cap,cur,rfl,h2,h3,h4,h5,h6,h7⟩
 ·omega
 ·refine⟨g,cap,rfl,hl,λi p hp j hj=>?_⟩
  have hi:=(gy.1 hp).1
  rw[cell_of_row _ g _ _ _ _ h3,<- Km L i p hp j hj,<- h7,dI,if_pos (by omega),aY]
def iD(P:List (Nat × Nat)):List Value:=P.flatMap (λp=>[.int .i64 (p.1:Nat),.int .i64 (p.2:Nat)])
theorem pX(P:List (Nat × Nat)):(iD P).length=2*P.length:=by
 induction P with
 | nil=>rfl
 | cons p P ih=>simp[iD] at ih ⊢;omega
theorem Bv(P:List (Nat × Nat))(i:Nat)(p:Nat × Nat)(hp:P[i]? = some p):(iD P)[i*2]? = some (.int .i64 (p.1:Nat))/\(iD P)[i*2+1]? = some (.int .i64 (p.2:Nat)):=by
 induction P generalizing i with
 | nil=>simp at hp
 | cons q P ih=>
  have e:iD (q::P)=[.int .i64 (q.1:Nat),.int .i64 (q.2:Nat)]++iD P:=by simp[iD]
  rw[e]
  cases i with
  | zero=>
   simp at hp
   subst hp
   exact⟨rfl,rfl⟩
  | succ i=>
   obtain⟨h1,h2⟩:=ih i (by simpa using hp)
   refine⟨?_,?_⟩
   ·rw[aL (by simp;omega),show (i+1)*2-[Value.int .i64 (q.1:Nat),.int .i64 (q.2:Nat)].length=i*2 by simp;omega];exact h1
   ·rw[aL (by simp;omega),show (i+1)*2+1-[Value.int .i64 (q.1:Nat),.int .i64 (q.2:Nat)].length=i*2+1 by simp;omega];exact h2
def En(L:List (Nd × Nat))(a:Nat):Nat:=match L[a]? with|some p=>p.2|none=>0
def jB(L:List (Nd × Nat)):List (Nat × Nat)->List (Nat × Nat)
 | []=>[]
 | p::q=>if p.2<En L p.1 then p::q else jB L q
theorem p8(L:List (Nd × Nat)):∀Q,∃R,Q=R++jB L Q
 | []=>⟨[],rfl⟩
 | p::q=>by
  unfold jB
  split
  ·exact⟨[],rfl⟩
  ·obtain⟨R,hR⟩:=p8 L q
   exact⟨p::R,by rw[List.cons_append,<- hR]⟩
def PR(W:World)(g:Nat)(P:List (Nat × Nat)):Prop:=∀ (i:Nat) (p:Nat × Nat),P[i]? = some p->W.cell? ⟨g,i*2,none⟩=some (.int .i64 (p.1:Nat))/\W.cell? ⟨g,i*2+1,none⟩=some (.int .i64 (p.2:Nat))
theorem PR.below{W W':World}{g:Nat}{P:List (Nat × Nat)}(h:PR W g P){B:Nat}(hB:Below B W W')(hb:g<B):PR W' g P:=λi p hp=>
 ⟨(hB.cell (p:=⟨g,_,none⟩) hb).trans (h i p hp).1,(hB.cell (p:=⟨g,_,none⟩) hb).trans (h i p hp).2⟩
def VX:Value->Nat
 | .slice _ n _=>n
 | _=>0
theorem R7(w:World)(v:Value)(L:List (Nd × Nat))(hN:NR w v L)(G9:∀k,v.ownBlock=some k->k<w.heap.size)(g cap:Nat)(Q:List (Nat × Nat))(hP:PR w g Q.reverse)(hg:g<w.heap.size)(hQ:∀p ∈ Q,p.1<L.length)(hc:Q.length<=cap)(hl:Q.length<=1000000) :
  Calls prog 58 #[v,.slice (some ⟨g,0,none⟩) Q.length cap] w λe w'=>e=.returned (.slice (some ⟨g,0,none⟩) (jB L Q).length cap)/\Below w.heap.size w w':=by
 obtain⟨gl,lc,rfl,hL,hcell⟩:=hN
 have HN:=hid G9
 have HP:=hid hP
 have HC:=hid hcell
 have HQ:=hid hQ
 clear G9 hP hcell hQ
 obtain⟨R,hR⟩:∃R,jB L Q=R:=⟨_,rfl⟩
 rw[hR]
 go_enter func58,ntmps58
 go_upto_region 1 with fail
 go_loopw [1] (λpv wr=>∃A Q1,Q=A++Q1/\pv=.slice (some ⟨g,0,none⟩) Q1.length cap/\jB L Q1=R/\Below w.heap.size w wr) (λpv _=>VX pv)
 case atStart=>exact⟨[],Q,rfl,rfl,hR,aH _ _⟩
 case round=>
  obtain⟨A,Q1,hA,rfl,UY,hB⟩:=hrel
  clear hR
  cases Q1 with
  | nil=>
   have:R=[]:=by rw[<- UY];rfl
   subst this
   have HB:=hid hB
   clear hB hA UY
   simp only[List.length_nil]
   go_wp2
   go_ret
   exact⟨rfl,HB.out⟩
  | cons p Q2=>
   obtain⟨a,m⟩:=p
   have hrev:Q.reverse[Q2.length]? = some (a,m):=by
    rw[hA,List.reverse_append,List.reverse_cons,List.append_assoc,aL (by simp)]
    simp
   obtain⟨d0,d1⟩:=HP.out _ _ hrev
   have ha:a<L.length:=HQ.out (a,m) (by rw[hA];simp)
   have hq:L[a]? = some L[a]:=gI ha
   have d2:=HC.out a _ hq 2 (by omega)
   have hk:En L a=L[a].2:=by unfold En;rw[hq]
   generalize L[a]=q at *
   have hgl:=HN.out gl rfl
   have c0:wr.cell? ⟨g,Q2.length*2,none⟩=some (.int .i64 (a:Nat)):=(hB.cell (p:=⟨g,_,none⟩) hg).trans d0
   have c1:wr.cell? ⟨g,Q2.length*2+1,none⟩=some (.int .i64 (m:Nat)):=(hB.cell (p:=⟨g,_,none⟩) hg).trans d1
   have hwr:gl<wr.heap.size:=Nat.lt_of_lt_of_le hgl hB.size
   have c2:(wr.alloc (.cells #[.int .i64 (a:Nat),.int .i64 (m:Nat)] 94)).cell? ⟨gl,a*6+2,none⟩=some (.int .i64 (q.2:Nat)):=(((aH _ wr).alloc (ay _) _).cell (p:=⟨gl,_,none⟩) hwr).trans ((hB.cell (p:=⟨gl,_,none⟩) hgl).trans d2)
   have hnew:=eU wr (.cells #[.int .i64 (a:Nat),.int .i64 (m:Nat)] 94)
   have e0:(wr.alloc (.cells #[.int .i64 (a:Nat),.int .i64 (m:Nat)] 94)).cell? ⟨wr.heap.size,0,none⟩=some (.int .i64 (a:Nat)):=aA hnew 0
   have e1:(wr.alloc (.cells #[.int .i64 (a:Nat),.int .i64 (m:Nat)] 94)).cell? ⟨wr.heap.size,1,none⟩=some (.int .i64 (m:Nat)):=aA hnew 1
   have hB2:Below w.heap.size w (wr.alloc (.cells #[.int .i64 (a:Nat),.int .i64 (m:Nat)] 94)):=hB.alloc hB.size _
   have HB2:=hid hB2
   have hl2:Q2.length+1<=1000000/\Q2.length+1<=cap:=by
    have:=congrArg List.length hA
    simp at this
    omega
   have hlen:(((a,m)::Q2).length:Int)=(Q2.length:Int)+1:=by simp
   have l0:((a,m)::Q2).length=Q2.length+1:=rfl
   have o1:bO.wrap (((Q2.length+1:Nat):Int)-1)=Q2.length:=by rw[bY];omega
   have o2:(0:Int)<=Q2.length:=by omega
   have o3:(Q2.length:Int)<((Q2.length+1:Nat):Int):=by omega
   have o4:((Q2.length+1:Nat):Int)>0:=by omega
   have o5:(0:Int)<=(a:Nat):=by omega
   have o6:((a:Nat):Int)<L.length:=by omega
   have o7:(Q2.length:Int)<=cap:=by omega
   rw[l0]
   by_cases hm:m<q.2
   ·have j1:((m:Nat):Int)<(q.2:Nat):=by omega
    have hR2:R=(a,m)::Q2:=by rw[<- UY];unfold jB;rw[if_pos (by rw[hk];exact hm)]
    subst hR2
    clear hnew d0 d1 d2 hrev hq hk UY hA hB hB2 hlen HP HC HQ HN
    go_upto_region 3 with fail;generalize hW:World.alloc wr _=W at *;(have inst:Nonempty (BW W):=⟨⟨_,aH _ _⟩⟩);(have f0:=BW.cell e0);(have f1:=BW.cell e1);(have f2:=BW.cell c2);clear e0 e1 c2 c0 c1;(refine wp_region_quiet_below (by kernel_rfl) (by kernel_rfl) ?_);(repeat (go_big_quiet_step (fail)));(refine wpQuiet_nil ?_);intro _ hw';(obtain⟨pw,hw''⟩:=hw');subst hw''
    go_wp2
    go_ret
    exact⟨rfl,HB2.out.trans (pw.h.mono HB2.out.size)⟩
   ·have j1:¬ ((m:Nat):Int)<(q.2:Nat):=by omega
    have hR2:jB L Q2=R:=by rw[<- UY];conv=>rhs;unfold jB;rw[if_neg (by rw[hk];exact hm)]
    have HA:Hid (Q=(A++[(a,m)])++Q2):=hid (by rw[hA];simp)
    have HR2:=hid hR2
    clear hnew d0 d1 d2 hrev hq hk UY hA hB hB2 hlen HP HC HQ HN hR2
    go_upto_region 3 with fail;generalize hW:World.alloc wr _=W at *;(have inst:Nonempty (BW W):=⟨⟨_,aH _ _⟩⟩);(have f0:=BW.cell e0);(have f1:=BW.cell e1);(have f2:=BW.cell c2);clear e0 e1 c2 c0 c1;(refine wp_region_quiet_below (by kernel_rfl) (by kernel_rfl) ?_);(repeat (go_big_quiet_step (fail)));(refine wpQuiet_nil ?_);intro _ hw';(obtain⟨pw,hw''⟩:=hw');subst hw''
    go_wp2
    go_roundw
    case rel=>exact⟨_,Q2,HA.out,rfl,HR2.out,HB2.out.trans (pw.h.mono HB2.out.size)⟩
    case measure=>simp[VX]
def fitsAt(L:List (Nd × Nat))(n:Nat):Bool:=match L[n]? with|some p=>zM p|none=>false
def QJ(L:List (Nd × Nat))(a m n:Nat):Bool:=match L[a]?,L[n]? with|some x,some y=>Oi x.1.kind (x.2:Nat) (m:Nat) y.1.kind|_,_=>false
def isGo(L:List (Nd × Nat)):Nat->Nat->List (Nat × Nat)->Bool
 | 0,n,Q=>(jB L Q).isEmpty
 | r+1,n,Q=>match jB L Q with
  | []=>false
  | p::q=>fitsAt L n&&QJ L p.1 p.2 n&&isGo L r (n+1) ((n,0)::(p.1,p.2+1)::q)
def lX(L:List (Nd × Nat)):Bool:=match L with
 | []=>false
 | p::L'=>(p.1.kind==1)&&zM p&&isGo (p::L') L'.length 1 [(0,0)]
theorem pY(P R:List (Nat × Nat)):iD (P++R)=iD P++iD R:=by simp[iD]
theorem Lb{W:World}{B:Nat}{e:TypeId}{size g n cap:Nat}{xs:List Value}(h:W.ownsRow B e size (.slice (some ⟨g,0,none⟩) n cap) n xs)(k:Nat)(hk:k<=n):W.ownsRow B e size (.slice (some ⟨g,0,none⟩) k cap) k (xs.take (k*size)):=by
 rcases h.2 with⟨h0,_⟩|⟨g',cap',cur,h0,h2,h3,h4,h5,h6,h7⟩
 ·cases h0
 ·simp only[Value.slice.injEq,Option.some.injEq,Addr.mk.injEq,true_and,and_true] at h0
  obtain⟨rfl,rfl⟩:=h0
  refine⟨?_,.inr ⟨g,cap,cur,rfl,h2,h3,by omega,h5,h6,?_⟩⟩
  ·rw[List.length_take,h.1]
   exact Nat.min_eq_left (Nat.mul_le_mul_right _ hk)
  ·rw[<- h7,List.take_take,Nat.min_eq_left (Nat.mul_le_mul_right _ hk)]
theorem O9{W:World}{B:Nat}{e:TypeId}{size g n cap:Nat}{xs:List Value}(h:W.ownsRow B e size (.slice (some ⟨g,0,none⟩) n cap) n xs)(j:Nat)(u:Value)(hj:j<n*size):(W.setCell ⟨g,j,none⟩ u).ownsRow B e size (.slice (some ⟨g,0,none⟩) n cap) n (xs.set j u):=by
 rcases h.2 with⟨h0,_⟩|⟨g',cap',cur,h0,h2,h3,h4,h5,h6,h7⟩
 ·cases h0
 ·simp only[Value.slice.injEq,Option.some.injEq,Addr.mk.injEq,true_and,and_true] at h0
  obtain⟨rfl,rfl⟩:=h0
  have hs:=aM (c:=cur.toList) (by simpa using h3) j u
  refine⟨by rw[List.length_set,h.1],.inr ⟨g,cap,_,rfl,h2,hs,h4,h5,by simpa using h6,?_⟩⟩
  rw[<- h7,List.toList_toArray,List.take_set]
theorem wM{W:World}{B:Nat}{e:TypeId}{size g n cap:Nat}{xs:List Value}(h:W.ownsRow B e size (.slice (some ⟨g,0,none⟩) n cap) n xs)(j:Nat)(hj:j<n*size):W.cell? ⟨g,j,none⟩=xs[j]? /\ W.frozen? ⟨g,j,none⟩=false:=by
 rcases h.2 with⟨h0,_⟩|⟨g',cap',cur,h0,h2,h3,h4,h5,h6,h7⟩
 ·cases h0
 ·simp only[Value.slice.injEq,Option.some.injEq,Addr.mk.injEq,true_and,and_true] at h0
  obtain⟨rfl,rfl⟩:=h0
  refine⟨?_,aC h3 j⟩
  rw[cell_of_row _ g _ _ _ _ h3,<- h7,dI,if_pos hj,aY]
theorem QE{W:World}{B g n cap:Nat}{P:List (Nat × Nat)}(h:W.ownsRow B 94 2 (.slice (some ⟨g,0,none⟩) n cap) n (iD P))(hn:n=P.length):PR W g P:=by
 intro i p hp
 have hi:=(gy.1 hp).1
 obtain⟨e0,e1⟩:=Bv P i p hp
 exact⟨(wM h (i*2) (by omega)).1.trans e0,(wM h (i*2+1) (by omega)).1.trans e1⟩
theorem V8:(prog.info? 94).map (λi=>(i.zero,i.size,i.bytes))=some (some (.agg #[.int .i64 0,.int .i64 0]),2,16):=by kernel_rfl
theorem RF:prog.underlying 95=some (.slice 94):=by kernel_rfl
theorem Ay(W:World)(ty:TypeId)(v:Value)(n:Nat)(xs:List Value){B0:Nat}(hown:W.ownsRow B0 94 2 v n xs)(hB:B0<=W.heap.size)(a m:Nat)(hn:n<=4000000):∃v' w',(Builtin.append_ #[95,95] ty #[v,.slice (some ⟨W.heap.size,0,none⟩) 1 1]).run prog (W.alloc (.cells #[.int .i64 (a:Nat),.int .i64 (m:Nat)] 94))=.ok v' w'/\w'.ownsRow B0 94 2 v' (n+1) (xs++[.int .i64 (a:Nat),.int .i64 (m:Nat)])/\(W.alloc (.cells #[.int .i64 (a:Nat),.int .i64 (m:Nat)] 94)).grownBy w' v.ownBlock:=by
 obtain⟨i0,hi,hz0,hz1,hz2⟩:=info_parts V8
 have e0:=World.cell?_alloc_new W #[.int .i64 (a:Nat),.int .i64 (m:Nat)] 94
 have ho:=hown.alloc (.cells #[.int .i64 (a:Nat),.int .i64 (m:Nat)] 94)
 obtain⟨v',w',h1,h2,h3,_,h5⟩:=run_append_own_at (P:=prog) (W.alloc (.cells #[.int .i64 (a:Nat),.int .i64 (m:Nat)] 94)) B0 95 ty 94 i0 _ 2 16 RF hi hz0 hz1 hz2 rfl (by omega) v n xs ho ⟨W.heap.size,0,none⟩ 1 1 [.int .i64 (a:Nat),.int .i64 (m:Nat)] (by simp) (by
  intro j u hj
  have e1:((⟨W.heap.size,0,none⟩:Addr).add j)=⟨W.heap.size,j,none⟩:=by simp[Addr.add];intro e;exact e.symm
  rw[e1,e0 j]
  simpa using hj) (by
  intro u hu
  simp at hu
  rcases hu with rfl|rfl <;> rfl) (by unfold maxLen;omega) (by omega) (by simp;omega)
 exact⟨v',w',h1,h2,h3⟩
theorem Hy(L:List (Nd × Nat))(Q:List (Nat × Nat)):∀p ∈ jB L Q,p ∈ Q:=by
 obtain⟨R,hR⟩:=p8 L Q
 intro p hp
 rw[hR]
 exact List.mem_append_right _ hp
theorem Kr{W:World}{B g cap:Nat}{L:List (Nd × Nat)}{Q:List (Nat × Nat)}(h:W.ownsRow B 94 2 (.slice (some ⟨g,0,none⟩) Q.length cap) Q.length (iD Q.reverse)):W.ownsRow B 94 2 (.slice (some ⟨g,0,none⟩) (jB L Q).length cap) (jB L Q).length (iD (jB L Q).reverse):=by
 obtain⟨R,hR⟩:=p8 L Q
 have hl:(jB L Q).length<=Q.length:=by have:=congrArg List.length hR;simp at this;omega
 have h1:=Lb h _ hl
 have e:(iD Q.reverse).take ((jB L Q).length*2)=iD (jB L Q).reverse:=by
  have e2:iD Q.reverse=iD (jB L Q).reverse++iD R.reverse:=by
   conv=>lhs;rw[hR]
   rw[List.reverse_append,pY]
  rw[e2,List.take_append_of_le_length (by rw[pX];simp;omega),List.take_of_length_le (by rw[pX];simp;omega)]
 rw[e] at h1
 exact h1
theorem og{W:World}{gl lc:Nat}{L:List (Nd × Nat)}(h:NR W (.slice (some ⟨gl,0,none⟩) L.length lc) L)(i:Nat)(p:Nd × Nat)(hp:L[i]? = some p):W.cell? ⟨gl,i*6,none⟩=some (.int .i64 p.1.kind)/\W.cell? ⟨gl,i*6+1,none⟩=some (.int .i64 p.1.a)/\W.cell? ⟨gl,i*6+2,none⟩=some (.int .i64 (p.2:Nat))/\W.cell? ⟨gl,i*6+3,none⟩=some (.string p.1.text)/\W.cell? ⟨gl,i*6+4,none⟩=some (.int .i64 p.1.int)/\W.cell? ⟨gl,i*6+5,none⟩=some (.int .u64 p.1.bits):=by
 obtain⟨g,cap,e,h1,h2⟩:=h
 simp only[Value.slice.injEq,Option.some.injEq,Addr.mk.injEq,true_and,and_true] at e
 obtain⟨rfl,rfl⟩:=e
 exact⟨h2 i p hp 0 (by omega),h2 i p hp 1 (by omega),h2 i p hp 2 (by omega),h2 i p hp 3 (by omega),h2 i p hp 4 (by omega),h2 i p hp 5 (by omega)⟩
theorem Hu(q:List (Nat × Nat))(a m:Nat):(iD (q.reverse++[(a,m)])).set (q.length*2+1) (.int .i64 ((m+1:Nat):Int))=iD (q.reverse++[(a,m+1)]):=by
 rw[pY,pY,List.set_append_right _ _ (by rw[pX];simp;omega),pX]
 simp[iD,show q.length*2+1-2*q.length=1 by omega]
theorem ME(w:World)(v:Value)(L:List (Nd × Nat))(hN:NR w v L)(G9:∀k,v.ownBlock=some k->k<w.heap.size)(hT:lX L=true)(hs:∀p ∈ L,p.1.text.size<=1000000/\p.2<=1000000)(ht:Tabs w)(hm:MarksIn w) :
  Calls prog 34 #[v] w λe w'=>e=.returned (.bool true)/\Below w.heap.size w w':=by
 obtain⟨gl,lc,rfl,hL,hcell⟩:=id hN
 clear hcell
 cases L with
 | nil=>cases hT
 | cons p0 L'=>
 have hT0:=hT
 simp only[lX,dQ] at hT0
 obtain⟨⟨hk0,hf0⟩,hgo⟩:=hT0
 have hk1:p0.1.kind=1:=by simpa using hk0
 have hgl:=G9 gl rfl
 obtain⟨L,FE⟩:∃L,p0::L'=L:=⟨_,rfl⟩
 have hlen:L'.length+1=L.length:=by rw[<- FE];rfl
 have h00:L[0]? = some p0:=by rw[<- FE];rfl
 rw[FE] at hN hL hs hgo
 rw[show (p0::L').length=L.length by rw[FE]]
 clear FE hT hk0
 have X8:=Mc p0 hf0 (hs p0 (dR h00)).1 w ht hm
 obtain⟨c0,c1,c2,c3,c4,c5⟩:=og hN 0 p0 h00
 rw[hk1] at c0
 simp only[Nat.zero_mul,Nat.zero_add] at c0 c1 c2 c3 c4 c5
 unfold nv dJ at X8
 rw[hk1] at X8
 have b0:((L.length:Int)==0)=false:=by
  have:¬ (L.length:Int)=0:=by omega
  simpa using this
 have b1:(0:Int)<L.length:=by omega
 have HN:=hid hN
 have Pp:=hid G9
 have HS:=hid hs
 have HT:=hid ht
 have HM:=hid hm
 have HG:=hid hgo
 clear hN G9 hs ht hm hgo h00 hf0
 go_enter func34,ntmps34
 go_upto_region 5 with(go_at_call 57;(with_reducible refine X8.mono ?_);rintro e w2 ⟨rfl,hB2⟩;clear X8)
 clear c0 c1 c2 c3 c4 c5
 have hB3:Below w.heap.size w (w2.alloc (.cells #[.int .i64 0,.int .i64 0] 94)):=hB2.alloc hB2.size _
 have ho3:(w2.alloc (.cells #[.int .i64 0,.int .i64 0] 94)).ownsRow w.heap.size 94 2 (.slice (some ⟨w2.heap.size,0,none⟩) 1 1) 1 (iD [(0,0)]):=⟨rfl,.inr ⟨w2.heap.size,1,_,rfl,hB2.size,eU w2 _,ay _,by unfold maxLen;omega,rfl,rfl⟩⟩
 generalize w2.alloc _=W0 at *
 go_loopw [3,4] (λpv at' wr=>∃ (r n:Nat) (Q:List (Nat × Nat)) (g cap:Nat),n+r=L.length/\at'=.int .i64 (n:Nat)/\pv=.slice (some ⟨g,0,none⟩) Q.length cap/\isGo L r n Q=true/\wr.ownsRow w.heap.size 94 2 (.slice (some ⟨g,0,none⟩) Q.length cap) Q.length (iD Q.reverse)/\Below w.heap.size w wr/\(∀p ∈ Q,p.1<n/\p.2<=n)/\Q.length<=n) (λ_ at' _=>L.length-(intOf at').toNat)
 case atStart=>exact⟨L'.length,1,[(0,0)],w2.heap.size,1,by omega,rfl,rfl,HG.out,ho3,hB3,by simp,by simp⟩
 case round=>
  obtain⟨r,n,Q,g,cap,hr,rfl,rfl,hgo,ho,hB,hQ,hQl⟩:=hrel
  clear hB3 ho3 hB2 HG
  obtain⟨hgb,hgw⟩:=ho.lt g rfl
  have cr:=R7 wr (.slice (some ⟨gl,0,none⟩) L.length lc) L (HN.out.below hB Pp.out) (λk e=>Nat.lt_of_lt_of_le (Pp.out k e) hB.size) g cap Q (QE ho (by simp)) hgw (λp hp=>by have:=(hQ p hp).1;omega) (by
   rcases ho.2 with⟨h0,_⟩|⟨g',cap',cur,h0,h2,h3,h4,_⟩
   ·cases h0
   ·cases h0;exact h4) (by omega)
  cases r with
  | zero=>
   have hn:n=L.length:=by omega
   have j1:¬ (n:Int)<L.length:=by omega
   unfold isGo at hgo
   have hr0:(jB L Q).length=0:=by simpa using hgo
   rw[hr0] at cr
   have HB:=hid hB
   clear hgo ho hB hQ hr0
   go_wp2_with (go_at_call 58;(with_reducible refine cr.mono ?_);rintro e w3 ⟨rfl,hB3⟩;(have HB3:=hid (HB.out.trans (hB3.mono HB.out.size)));clear hB3 cr)
   go_ret
   exact⟨rfl,HB3.out⟩
  | succ r=>
   have j1:(n:Int)<L.length:=by omega
   unfold isGo at hgo
   have Ou:=Kr (L:=L) ho
   have hmem:=Hy L Q
   obtain⟨R0,Sw⟩:=p8 L Q
   cases hQ':jB L Q with
   | nil=>rw[hQ'] at hgo;cases hgo
   | cons p q=>
   obtain⟨a,m⟩:=p
   rw[hQ'] at hgo cr Ou hmem Sw
   simp only[dQ] at hgo
   obtain⟨⟨hfit,hmay⟩,hgo⟩:=hgo
   have hql:q.length+1<=Q.length:=by have:=congrArg List.length Sw;simp at this;omega
   obtain⟨han,hmn⟩:=hQ (a,m) (hmem _ (by simp))
   simp only at han hmn
   have ha:a<L.length:=by omega
   have hn:n<L.length:=by omega
   have hq1:L[a]? = some L[a]:=gI ha
   have hq2:L[n]? = some L[n]:=gI hn
   have hsx:=HS.out L[a] (dR hq1)
   have hsy:=HS.out L[n] (dR hq2)
   unfold fitsAt at hfit
   unfold QJ at hmay
   rw[hq2] at hfit
   rw[hq1,hq2] at hmay
   simp only at hfit hmay
   generalize L[a]=x at *
   generalize L[n]=y at *
   simp only[List.length_cons] at cr Ou
   have j2:(((q.length+1:Nat):Int)==0)=false:=by
    have:¬ ((q.length+1:Nat):Int)=0:=by omega
    simpa using this
   have j3:bO.wrap (((q.length+1:Nat):Int)-1)=q.length:=by rw[bY];omega
   have j4:(0:Int)<=q.length:=by omega
   have j5:(q.length:Int)<((q.length+1:Nat):Int):=by omega
   have j6:(0:Int)<=n:=by omega
   have j7:(0:Int)<=a:=by omega
   have j8:(a:Int)<L.length:=by omega
   have j9:bO.wrap ((m:Int)+1)=((m+1:Nat):Int):=by rw[bY];omega
   have j10:bO.wrap ((n:Int)+1)=((n+1:Nat):Int):=by rw[bY];omega
   have HQ:=hid hQ
   have aAc:=hid hmem
   have U4:=hid hgo
   have HB:=hid hB
   have HO:=hid Ou
   have HF:=hid hfit
   have HY:=hid hmay
   have BL:=hid hq1
   have HX2:=hid hq2
   clear hQ hmem hgo hB ho Ou hfit hmay hq1 hq2 Sw hQ'
   go_upto_region 11 with(go_at_call 58;(with_reducible refine cr.mono ?_);rintro e w3 ⟨rfl,hB3⟩;clear cr)
   have hb3:=HB.out.trans (hB3.mono HB.out.size)
   have ho3:w3.ownsRow w.heap.size 94 2 (.slice (some ⟨g,0,none⟩) (q.length+1) cap) (q.length+1) (iD (q.reverse++[(a,m)])):=by
    have:=bD HO.out (W':=w3) (λk e=>hB3.block k (HO.out.lt k e).2)
    simpa using this
   have Ox:=HN.out.below hb3 Pp.out
   have hg3:=(ho3.lt g rfl).2
   have inst:Nonempty (BW w3):=⟨⟨_,aH _ _⟩⟩
   obtain⟨x0,x1,x2,x3,x4,x5⟩:=og Ox a x BL.out
   obtain⟨y0,y1,y2,y3,y4,y5⟩:=og Ox n y HX2.out
   obtain⟨z0,z1⟩:=QE ho3 (by simp) q.length (a,m) (by rw[aL (by simp)];simp)
   have X0:=BW.cell x0;have X1:=BW.cell x1;have X2:=BW.cell x2;have X3:=BW.cell x3;have X4:=BW.cell x4;have X5:=BW.cell x5
   have Y0:=BW.cell y0;have Y1:=BW.cell y1;have Y2:=BW.cell y2;have Y3:=BW.cell y3;have Y4:=BW.cell y4;have Y5:=BW.cell y5
   have Z0:=BW.cell z0;have Z1:=BW.cell z1
   have ht3:=HT.out.below hb3
   have xw:=HM.out.below hb3
   have ca:∀p:BW w3,Calls prog 57 #[.agg #[.int .i64 y.1.kind,.int .i64 y.1.a,.int .i64 (y.2:Nat),.string y.1.text,.int .i64 y.1.int,.int .u64 y.1.bits]] p.w' λe w''=>e=.returned (.bool true)/\∃p':BW w3,w''=p'.w':=λp=>BW.calls (p:=p) (Mc y HF.out hsy.1 p.w' (ht3.below p.h) (xw.below p.h))
   have cb:∀p:BW w3,Calls prog 59 #[.agg #[.int .i64 x.1.kind,.int .i64 x.1.a,.int .i64 (x.2:Nat),.string x.1.text,.int .i64 x.1.int,.int .u64 x.1.bits],.int .i64 (m:Nat),.int .i64 y.1.kind] p.w' λe w''=>e=.returned (.bool true)/\∃p':BW w3,w''=p'.w':=λp=>by
    have:=VR x.1.kind x.1.a (x.2:Nat) x.1.text x.1.int x.1.bits (m:Nat) y.1.kind ⟨by omega,by have:=hsx.2;omega⟩ p.w'
    rw[HY.out] at this
    exact BW.calls (p:=p) this
   clear x0 x1 x2 x3 x4 x5 y0 y1 y2 y3 y4 y5 z0 z1 HF HY BL HX2 Ox hB3
   have HB3:=hid hb3
   have UE:=hid ho3
   clear hb3 ho3 HO HB ht3 xw
   refine wp_region_quiet_below (by kernel_rfl) (by kernel_rfl) ?_
   repeat (go_big_quiet_step (first|(go_at_call 57;exact ca _)|(go_at_call 59;exact cb _)))
   refine wpQuiet_nil ?_
   intro _ hw'
   obtain⟨pw,hw''⟩:=hw'
   subst hw''
   clear X0 X1 X2 X3 X4 X5 Y0 Y1 Y2 Y3 Y4 Y5 Z0 Z1 ca cb inst
   have Ow:=bD UE.out (W':=pw.w') (λk e=>pw.h.block k (UE.out.lt k e).2)
   have hb4:=HB3.out.trans (pw.h.mono HB3.out.size)
   generalize pw.w'=W4 at *
   clear pw UE HB3 hg3
   obtain⟨d1,d2⟩:=wM Ow (q.length*2+1) (by omega)
   rw[(Bv (q.reverse++[(a,m)]) q.length (a,m) (by rw[aL (by simp)];simp)).2] at d1
   simp only at d1
   have vP:=O9 Ow (q.length*2+1) (.int .i64 ((m+1:Nat):Int)) (by omega)
   rw[Hu] at vP
   have hb5:Below w.heap.size w (W4.setCell ⟨g,q.length*2+1,none⟩ (.int .i64 ((m+1:Nat):Int))):=hb4.setCell (p:=⟨g,_,none⟩) hgb _
   obtain⟨v6,w6,hrun,ho6,QW⟩:=Ay (W4.setCell ⟨g,q.length*2+1,none⟩ (.int .i64 ((m+1:Nat):Int))) 95 _ _ _ vP hb5.size n 0 (by omega)
   have hb6:Below w.heap.size w w6:=(hb5.alloc hb5.size _).trans (((It.bL.refl (λk=>w.heap.size<=k) _).grown QW (λk e=>.inl (vP.lt k e).1)).below (Nat.le_trans hb5.size (by simp)) (λk e=>e))
   have XO:=hid hb6
   have HO6:Hid (w6.ownsRow w.heap.size 94 2 v6 ((n,0)::(a,m+1)::q).length (iD ((n,0)::(a,m+1)::q).reverse)):=by
    have e1:((n,0)::(a,m+1)::q).reverse=(q.reverse++[(a,m+1)])++[(n,0)]:=by simp
    rw[e1,pY]
    exact ho6
   obtain⟨g6,c6,rfl⟩:∃g6 c6,v6=.slice (some ⟨g6,0,none⟩) (q.length+1+1) c6:=by
    rcases ho6.2 with⟨_,h0⟩|⟨g',cap',cur,h0,_⟩
    ·omega
    ·exact⟨g',cap',h0⟩
   clear Ow vP ho6 hb4 hb5 hb6 QW HN Pp HS HT HM
   go_wp2_with (at_builtin;refine Lib.wpList_append_run _ rfl (.tmp 75) (.tmp 78) 95 95 rfl _ _ (by simp[Act.eval]) (by simp[Act.eval]) _ _ hrun ?_)
   go_roundw
   case rel=>exact⟨r,n+1,_,g6,c6,by omega,rfl,rfl,U4.out,HO6.out,XO.out,by
    intro p hp
    simp only[List.mem_cons] at hp
    rcases hp with rfl|rfl|hp
    ·exact⟨by simp,by simp⟩
    ·exact⟨by simp;omega,by simp;omega⟩
    ·have:=HQ.out p (aAc.out p (by simp[hp]))
     omega,by simp;omega⟩
   case measure=>show L.length-((n+1:Nat):Int).toNat<L.length-(n:Int).toNat;omega
end Go.Proofs.YtgchnkgolclmgaaGreatDoor.W.Tr
