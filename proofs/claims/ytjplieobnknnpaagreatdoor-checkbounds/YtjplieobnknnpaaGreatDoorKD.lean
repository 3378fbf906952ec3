import Derived.Test.YtjplieobnknnpaaGreatDoorKA
open List renaming getElem?_append_right → z1z, getElem?_take → z6z, getElem?_eq_getElem → z9z, mem_of_getElem? → z10z, mem_of_find?_eq_some → z11z, getElem?_eq_some_iff → z12z
open Array renaming getElem?_toList → z2z
open Nat renaming le_refl → z3z
open Go.World renaming alloc_heap_new → z8z
open Go.RowKit.Below renaming refl → z0z
open Bool renaming and_eq_true → z7z
open Go.IntKind renaming i64 → z4z, wrap_i64 → z5z
open Go.Proofs.Tryz
set_option maxRecDepth 1000000
set_option maxHeartbeats 8000000
namespace Go.Proofs.YtjplieobnknnpaaGreatDoor.W.Tr
open Go.ChangeShapes Go.WideShapes Go.RowKit Go.Shelf
set_option linter.unusedVariables false
set_option linter.unusedSimpArgs false
def nameP(s:ByteArray):Bool:=match Au s.data.toList with
 | [y,z]=>decide (y.c=0)&&decide (z.c=0)&&(y.t.kind==1)&&(y.t.text.toList==s.toList)
 | _=>false
theorem nZ(s:ByteArray)(y:Yd)(h:(Au s.data.toList).find? (λy=>y.c != 0)=some y):nameP s=false:=by
 have h1:=List.find?_some h
 have h2:=z11z h
 unfold nameP
 split
 ·rename_i a b e
  rw[e] at h2
  simp at h1 h2
  rcases h2 with rfl|rfl <;> simp[h1]
 ·rfl
theorem iN(s:ByteArray)(h:¬ (Au s.data.toList).length=2):nameP s=false:=by
 unfold nameP
 split
 ·rename_i a b e
  rw[e] at h
  exact absurd rfl h
 ·rfl
theorem vT(s:ByteArray)(hs:s.size<=1000000)(w:World)(ht:Tabs w)(hm:MarksIn w):Calls prog 144 #[.string s] w λe w'=>e=.returned (.bool (nameP s))/\Below w.heap.size w w':=by
 have ca:=oH s hs w ht hm
 clear ht hm
 cases hf:(Au s.data.toList).find? (λy=>y.c != 0) with
 | some y=>
  rw[nZ s y hf]
  have cb:Calls prog 172 #[.string s] w λe w'=>Below w.heap.size w w'/\e=.returned (.tuple #[.slice none 0 0,.agg #[.int .i64 y.c,.int .i64 y.f]]):=by
   refine ca.mono ?_
   rintro e w' ⟨hB,h⟩
   rcases h with⟨z,h1,h2⟩|⟨h0,_⟩
   ·obtain rfl:=Option.some.inj (hf.symm.trans h1)
    exact⟨hB,h2⟩
   ·have:=List.find?_some hf
    rw[h0 y (z11z hf)] at this
    cases this
  clear ca hf
  go_enter func144,ntmps144
  go_wp2_with (go_at_call 172;(with_reducible refine cb.mono ?_);rintro e w2 ⟨hB2,rfl⟩;(have HB:=hid hB2);clear hB2 cb)
  go_ret
  exact⟨rfl,HB.out.alloc HB.out.size _⟩
 | none=>
  have cb:Calls prog 172 #[.string s] w λe w'=>Below w.heap.size w w'/\∃o cap,e=.returned (.tuple #[.slice o (Au s.data.toList).length cap,.agg #[.int .i64 0,.int .i64 0]])/\(∀y ∈ Au s.data.toList,y.c=0)/\w'.ownsRow w.heap.size 71 5 (.slice o (Au s.data.toList).length cap) (Au s.data.toList).length (IB (Au s.data.toList)):=by
   refine ca.mono ?_
   rintro e w' ⟨hB,h⟩
   rcases h with⟨z,h1,h2⟩|⟨h0,v,he,hown⟩
   ·rw[hf] at h1;cases h1
   ·obtain⟨o,cap,rfl⟩:=Ak hown
    exact⟨hB,o,cap,he,h0,hown⟩
  clear ca hf
  by_cases h2:(Au s.data.toList).length=2
  ·obtain⟨y,z,hY⟩:∃y z,Au s.data.toList=[y,z]:=by
    match hh:Au s.data.toList,h2 with
    | [y,z],_=>exact⟨y,z,rfl⟩
   clear h2
   have hp:∀y' ∈ Au s.data.toList,y'.c=0->True:=λ_ _ _=>trivial
   obtain⟨q,hq⟩:∃q,nameP s=q:=⟨_,rfl⟩
   rw[hq]
   unfold nameP at hq
   rw[hY] at hq cb
   simp only[List.length_cons,List.length_nil,Nat.reduceAdd] at cb
   simp only at hq
   clear hp hY
   obtain⟨k1,hk1⟩:∃k,(y.t.kind==1)=k:=⟨_,rfl⟩
   obtain⟨k2,hk2⟩:∃k,(y.t.text.toList==s.toList)=k:=⟨_,rfl⟩
   rw[hk1,hk2] at hq
   have key:Calls prog 144 #[.string s] w λe w'=>(y.c=0/\z.c=0)/\e=.returned (.bool (k1&&k2))/\Below w.heap.size w w':=by
    cases k1 <;> cases k2
    all_goals
     go_enter func144,ntmps144
     go_wp2_with (go_at_call 172;(with_reducible refine cb.mono ?_);rintro e w2 ⟨hB2,o,cap,rfl,h0,hown⟩;(have HB:=hid hB2);(have H0:=hid h0);(rcases hown.2 with⟨e1,_⟩|⟨g,cap',cur,e1,e2,e3,e4,e5,e6,e7⟩);(cases e1);(simp only[Value.slice.injEq,true_and] at e1);(obtain⟨rfl,rfl⟩:=e1);(have hl:=(Array.getElem?_eq_some_iff.1 e3).1);(have d:∀k,k<10->(w2.alloc (.cells #[.int .i64 0,.int .i64 0] 26)).cell? ⟨g,k,none⟩=(IB [y,z])[k]?:=λk hk=>by rw[cell_of_row _ g k _ _ _ ((Below.heap_alloc _ _ _ hl).trans e3),<- e7,z6z,if_pos (by simpa using hk),z2z]);(have d0:(w2.alloc (.cells #[.int .i64 0,.int .i64 0] 26)).cell? ⟨g,0,none⟩=some (.int .i64 y.t.kind):=d 0 (by decide));(have d2:(w2.alloc (.cells #[.int .i64 0,.int .i64 0] 26)).cell? ⟨g,2,none⟩=some (.string y.t.text):=d 2 (by decide));(have g4:=hid e4);clear hB2 cb h0 hown d e2 e3 e4 e5 e6 e7)
     go_ret
     exact⟨⟨H0.out y (by simp),H0.out z (by simp)⟩,by first|rfl|simp_all,HB.out.alloc HB.out.size _⟩
   refine key.mono ?_
   rintro e w' ⟨⟨h1,h2⟩,h3,h4⟩
   refine⟨?_,h4⟩
   rw[h3,<- hq,h1,h2]
   simp
  ·rw[iN s h2]
   have b2:(((Au s.data.toList).length:Int)==2)=false:=by
    have:¬ ((Au s.data.toList).length:Int)=2:=by omega
    simpa using this
   generalize (Au s.data.toList).length=n at *
   generalize IB (Au s.data.toList)=xs at *
   have cc:Calls prog 172 #[.string s] w λe w'=>Below w.heap.size w w'/\∃o cap,e=.returned (.tuple #[.slice o n cap,.agg #[.int .i64 0,.int .i64 0]]):=cb.mono (by rintro e w' ⟨hB,o,cap,he,_⟩;exact⟨hB,o,cap,he⟩)
   clear cb h2
   go_enter func144,ntmps144
   go_wp2_with (go_at_call 172;(with_reducible refine cc.mono ?_);rintro e w2 ⟨hB2,o,cap,rfl⟩;(have HB:=hid hB2);clear hB2 cc)
   go_ret
   exact⟨rfl,HB.out.alloc HB.out.size _⟩
def D9(what:Int)(t:ByteArray):Bool:=if what=1 then nameP t else if what=2 then (t.toList==[])||nameP t else if what=3 then comp t||decide (¬tight t=0) else if what=4 then (t.toList==[45])||(t.toList==[126]) else if what=5 then true else (t.toList==[])
theorem kM(what:Int)(s:ByteArray)(hs:s.size<=1000000)(w:World)(ht:Tabs w)(hm:MarksIn w):Calls prog 98 #[.int .i64 what,.string s] w λe w'=>e=.returned (.bool (D9 what s))/\Below w.heap.size w w':=by
 have cn:=vT s hs w ht hm
 have cc:=Xc s w
 have ct:=Vl s w
 clear ht hm
 unfold D9
 generalize nameP s=nm at *
 generalize comp s=cp at *
 by_cases h1:what=1
 ·subst h1
  rw[if_pos rfl]
  go_enter func98,ntmps98
  go_wp2_with (go_at_call 144;(with_reducible refine cn.mono ?_);rintro e w2 ⟨rfl,hB⟩;(have HB:=hid hB);clear hB)
  go_ret
  exact⟨rfl,HB.out⟩
 rw[if_neg h1]
 have b1:(what==1)=false:=by simpa using h1
 by_cases h2:what=2
 ·subst h2
  rw[if_pos rfl]
  cases h:(s.toList==[])
  ·go_enter func98,ntmps98
   go_wp2_with (go_at_call 144;(with_reducible refine cn.mono ?_);rintro e w2 ⟨rfl,hB⟩;(have HB:=hid hB);clear hB)
   go_ret
   exact⟨by simp,HB.out⟩
  ·go_enter func98,ntmps98
   go_wp2_with fail
   go_ret
   exact⟨by simp,z0z _ _⟩
 rw[if_neg h2]
 have b2:(what==2)=false:=by simpa using h2
 by_cases h3:what=3
 ·subst h3
  rw[if_pos rfl]
  cases cp
  ·by_cases ht0:tight s=0
   ·rw[ht0] at ct ⊢
    go_enter func98,ntmps98
    go_wp2_with ((with_reducible (apply Calls.mono;first|exact cc|exact ct));rintro e w2 ⟨rfl,hw⟩;(have hw':=hw.symm);subst hw';clear hw)
    go_ret
    exact⟨by simp,z0z _ _⟩
   ·have b0:(((tight s:Nat):Int)==0)=false:=by
     have:¬ ((tight s:Nat):Int)=0:=by omega
     simpa using this
    have b00:(((tight s:Nat):Int)!=0)=true:=by simp[bne,b0]
    go_enter func98,ntmps98
    go_wp2_with ((with_reducible (apply Calls.mono;first|exact cc|exact ct));rintro e w2 ⟨rfl,hw⟩;(have hw':=hw.symm);subst hw';clear hw)
    go_ret
    exact⟨by simp[ht0],z0z _ _⟩
  ·go_enter func98,ntmps98
   go_wp2_with (go_at_call 145;(with_reducible refine cc.mono ?_);rintro e w2 ⟨rfl,hw⟩;(have hw':=hw.symm);subst hw';clear hw)
   go_ret
   exact⟨by simp,z0z _ _⟩
 rw[if_neg h3]
 have b3:(what==3)=false:=by simpa using h3
 clear cn cc ct
 by_cases h4:what=4
 ·subst h4
  rw[if_pos rfl]
  cases h:(s.toList==[45])
  ·go_enter func98,ntmps98
   go_wp2_with fail
   go_ret
   exact⟨by simp,z0z _ _⟩
  ·go_enter func98,ntmps98
   go_wp2_with fail
   go_ret
   exact⟨by simp,z0z _ _⟩
 rw[if_neg h4]
 have b4:(what==4)=false:=by simpa using h4
 by_cases h5:what=5
 ·subst h5
  rw[if_pos rfl]
  go_enter func98,ntmps98
  go_wp2_with fail
  go_ret
  exact⟨rfl,z0z _ _⟩
 rw[if_neg h5]
 have b5:(what==5)=false:=by simpa using h5
 go_enter func98,ntmps98
 go_wp2_with fail
 go_ret
 exact⟨by simp,z0z _ _⟩
def nv(p:Nd × Nat):Value:=Ad p.1.kind p.1.a (p.2:Nat) p.1.text p.1.int p.1.bits
def Gv(p:Nd × Nat):Bool:=decide ((CZ p.1.kind).least<=(p.2:Nat))&&decide (((p.2:Nat):Int)<=(CZ p.1.kind).most)&&D9 (CZ p.1.kind).text p.1.text&&GU p.1.kind p.1.int p.1.bits
theorem Yf(p:Nd × Nat)(hp:Gv p=true)(hs:p.1.text.size<=1000000)(w:World)(ht:Tabs w)(hm:MarksIn w):Calls prog 61 #[nv p] w λe w'=>e=.returned (.bool true)/\Below w.heap.size w w':=by
 obtain⟨⟨k,a,t,i,b⟩,c⟩:=p
 have cr:=Qp k
 have cn:=pU k a (c:Nat) t i b
 have ct:=λ(what:Int) (w:World) (ht:Tabs w) (hm:MarksIn w)=>kM what t hs w ht hm
 simp only[Gv,z7z,decide_eq_true_eq] at hp
 obtain⟨⟨⟨h1,h2⟩,h3⟩,h4⟩:=hp
 unfold nv
 simp only
 generalize CZ k=r at *
 obtain⟨r0,r1,r2,r3⟩:=r
 simp only at h1 h2 h3
 have ct1:∀w,Tabs w->MarksIn w->Calls prog 98 #[.int .i64 r1,.string t] w λe w'=>e=.returned (.bool true)/\Below w.heap.size w w':=by
  intro w ht hm
  have:=ct r1 w ht hm
  rw[h3] at this
  exact this
 rw[h4] at cn
 unfold Ad at cn ⊢
 unfold NZ at cr
 simp only at cr
 clear ct h3 h4 hs
 have bw:Below w.heap.size w (w.alloc (.cells #[.int .i64 k,.int .i64 a,.int .i64 (c:Nat),.string t,.int .i64 i,.int .u64 b] 48)):=(z0z _ w).alloc (z3z _) _
 have HT:=hid ht
 have HM:=hid hm
 clear ht hm
 go_enter func61,ntmps61
 go_wp2_with (first|(go_at_call 97;(with_reducible refine(cr _).mono ?_);rintro e w2 ⟨rfl,hB2⟩;(have hb2:=bw.trans (hB2.mono bw.size));(have hn:=(hB2.block w.heap.size (by simp)).trans (z8z w _));(have hb3:Below w2.heap.size w2 (w2.alloc (.cells #[.int .i64 r0,.int .i64 r1,.int .i64 r2,.int .i64 r3] 148)):=(z0z _ w2).alloc (z3z _) _);(have hn2:=AY hn hb3);(have q0:=AO hn2 0);(have q1:=AO hn2 1);(have q2:=AO hn2 2);(have q3:=AO hn2 3);(have q4:=AO hn2 4);(have q5:=AO hn2 5);simp only[List.getElem?_toArray,List.getElem?_cons_succ,List.getElem?_cons_zero] at q0 q1 q2 q3 q4 q5;(have HB:=hid (hb2.trans (hb3.mono hb2.size)));clear hB2 hb2 hb3 hn hn2)|(go_at_call 98;(with_reducible refine(ct1 _ (HT.out.below HB.out) (HM.out.below HB.out)).mono ?_);rintro e w5 ⟨rfl,hB5⟩;(have HB5:=hid (HB.out.trans (hB5.mono HB.out.size)));(have s0:=It.GX hB5 q0);(have s1:=It.GX hB5 q1);(have s2:=It.GX hB5 q2);(have s3:=It.GX hB5 q3);(have s4:=It.GX hB5 q4);(have s5:=It.GX hB5 q5);clear hB5)|(go_at_call 99;(with_reducible refine(cn _).mono ?_);rintro e w6 ⟨rfl,hB6⟩;(have HB6:=hid (HB5.out.trans (hB6.mono HB5.out.size)));clear hB6))
 go_ret
 exact⟨rfl,HB6.out⟩
def NR(W:World)(v:Value)(L:List (Nd × Nat)):Prop:=∃g cap,v=.slice (some ⟨g,0,none⟩) L.length cap/\L.length<=1000000/\∀ (i:Nat) (p:Nd × Nat),L[i]? = some p->∀j:Nat,j<6->W.cell? ⟨g,i*6+j,none⟩=(El p)[j]?
theorem NR.below{W W':World}{v:Value}{L:List (Nd × Nat)}(h:NR W v L){B:Nat}(hB:Below B W W')(hb:∀k,v.ownBlock=some k->k<B):NR W' v L:=by
 obtain⟨g,cap,rfl,h1,h2⟩:=h
 refine⟨g,cap,rfl,h1,λi p hp j hj=>?_⟩
 have:=h2 i p hp j hj
 rw[<- this]
 exact hB.cell (p:=⟨g,_,none⟩) (hb g rfl)
theorem pW(L:List (Nd × Nat))(i:Nat)(p:Nd × Nat)(hp:L[i]? = some p)(j:Nat)(hj:j<6):(IL L)[i*6+j]? = (El p)[j]?:=by
 induction L generalizing i with
 | nil=>simp at hp
 | cons q L ih=>
  have e:IL (q::L)=(El q).toList++IL L:=by simp[IL]
  have hl:(El q).toList.length=6:=rfl
  rw[e]
  cases i with
  | zero=>
   simp at hp
   subst hp
   rw[Nat.zero_mul,Nat.zero_add,List.getElem?_append_left (by omega),z2z]
  | succ i=>
   rw[z1z (by omega),hl,show (i+1)*6+j-6=i*6+j by omega]
   exact ih i (by simpa using hp)
theorem iH{W:World}{B:Nat}{v:Value}{L:List (Nd × Nat)}(h:W.ownsRow B 48 6 v L.length (IL L))(h0:0<L.length)(hl:L.length<=1000000):NR W v L:=by
 rcases h.2 with⟨_,e0⟩|⟨g,cap,cur,rfl,h2,h3,h4,h5,h6,h7⟩
 ·omega
 ·refine⟨g,cap,rfl,hl,λi p hp j hj=>?_⟩
  have hi:=(z12z.1 hp).1
  rw[cell_of_row _ g _ _ _ _ h3,<- pW L i p hp j hj,<- h7,z6z,if_pos (by omega),z2z]
def DU(P:List (Nat × Nat)):List Value:=P.flatMap (λp=>[.int .i64 (p.1:Nat),.int .i64 (p.2:Nat)])
theorem O6(P:List (Nat × Nat)):(DU P).length=2*P.length:=by
 induction P with
 | nil=>rfl
 | cons p P ih=>simp[DU] at ih ⊢;omega
theorem dh(P:List (Nat × Nat))(i:Nat)(p:Nat × Nat)(hp:P[i]? = some p):(DU P)[i*2]? = some (.int .i64 (p.1:Nat))/\(DU P)[i*2+1]? = some (.int .i64 (p.2:Nat)):=by
 induction P generalizing i with
 | nil=>simp at hp
 | cons q P ih=>
  have e:DU (q::P)=[.int .i64 (q.1:Nat),.int .i64 (q.2:Nat)]++DU P:=by simp[DU]
  rw[e]
  cases i with
  | zero=>
   simp at hp
   subst hp
   exact⟨rfl,rfl⟩
  | succ i=>
   obtain⟨h1,h2⟩:=ih i (by simpa using hp)
   refine⟨?_,?_⟩
   ·rw[z1z (by simp;omega),show (i+1)*2-[Value.int .i64 (q.1:Nat),.int .i64 (q.2:Nat)].length=i*2 by simp;omega];exact h1
   ·rw[z1z (by simp;omega),show (i+1)*2+1-[Value.int .i64 (q.1:Nat),.int .i64 (q.2:Nat)].length=i*2+1 by simp;omega];exact h2
def Ki(L:List (Nd × Nat))(a:Nat):Nat:=match L[a]? with|some p=>p.2|none=>0
def Co(L:List (Nd × Nat)):List (Nat × Nat)->List (Nat × Nat)
 | []=>[]
 | p::q=>if p.2<Ki L p.1 then p::q else Co L q
theorem PY(L:List (Nd × Nat)):∀Q,∃R,Q=R++Co L Q
 | []=>⟨[],rfl⟩
 | p::q=>by
  unfold Co
  split
  ·exact⟨[],rfl⟩
  ·obtain⟨R,hR⟩:=PY L q
   exact⟨p::R,by rw[List.cons_append,<- hR]⟩
def PR(W:World)(g:Nat)(P:List (Nat × Nat)):Prop:=∀ (i:Nat) (p:Nat × Nat),P[i]? = some p->W.cell? ⟨g,i*2,none⟩=some (.int .i64 (p.1:Nat))/\W.cell? ⟨g,i*2+1,none⟩=some (.int .i64 (p.2:Nat))
theorem PR.below{W W':World}{g:Nat}{P:List (Nat × Nat)}(h:PR W g P){B:Nat}(hB:Below B W W')(hb:g<B):PR W' g P:=λi p hp=>
 ⟨(hB.cell (p:=⟨g,_,none⟩) hb).trans (h i p hp).1,(hB.cell (p:=⟨g,_,none⟩) hb).trans (h i p hp).2⟩
def WY:Value->Nat
 | .slice _ n _=>n
 | _=>0
theorem sQ(w:World)(v:Value)(L:List (Nd × Nat))(hN:NR w v L)(hNl:∀k,v.ownBlock=some k->k<w.heap.size)(g cap:Nat)(Q:List (Nat × Nat))(hP:PR w g Q.reverse)(hg:g<w.heap.size)(hQ:∀p ∈ Q,p.1<L.length)(hc:Q.length<=cap)(hl:Q.length<=1000000) :
  Calls prog 62 #[v,.slice (some ⟨g,0,none⟩) Q.length cap] w λe w'=>e=.returned (.slice (some ⟨g,0,none⟩) (Co L Q).length cap)/\Below w.heap.size w w':=by
 obtain⟨gl,lc,rfl,hL,hcell⟩:=hN
 have HN:=hid hNl
 have HP:=hid hP
 have HC:=hid hcell
 have HQ:=hid hQ
 clear hNl hP hcell hQ
 obtain⟨R,hR⟩:∃R,Co L Q=R:=⟨_,rfl⟩
 rw[hR]
 go_enter func62,ntmps62
 go_upto_region 1 with fail
 go_loopw [1] (λpv wr=>∃A Q1,Q=A++Q1/\pv=.slice (some ⟨g,0,none⟩) Q1.length cap/\Co L Q1=R/\Below w.heap.size w wr) (λpv _=>WY pv)
 case atStart=>exact⟨[],Q,rfl,rfl,hR,z0z _ _⟩
 case round=>
  obtain⟨A,Q1,hA,rfl,hR1,hB⟩:=hrel
  clear hR
  cases Q1 with
  | nil=>
   have:R=[]:=by rw[<- hR1];rfl
   subst this
   have HB:=hid hB
   clear hB hA hR1
   simp only[List.length_nil]
   go_wp2
   go_ret
   exact⟨rfl,HB.out⟩
  | cons p Q2=>
   obtain⟨a,m⟩:=p
   have hrev:Q.reverse[Q2.length]? = some (a,m):=by
    rw[hA,List.reverse_append,List.reverse_cons,List.append_assoc,z1z (by simp)]
    simp
   obtain⟨d0,d1⟩:=HP.out _ _ hrev
   have ha:a<L.length:=HQ.out (a,m) (by rw[hA];simp)
   have hq:L[a]? = some L[a]:=z9z ha
   have d2:=HC.out a _ hq 2 (by omega)
   have hk:Ki L a=L[a].2:=by unfold Ki;rw[hq]
   generalize L[a]=q at *
   have hgl:=HN.out gl rfl
   have c0:wr.cell? ⟨g,Q2.length*2,none⟩=some (.int .i64 (a:Nat)):=(hB.cell (p:=⟨g,_,none⟩) hg).trans d0
   have c1:wr.cell? ⟨g,Q2.length*2+1,none⟩=some (.int .i64 (m:Nat)):=(hB.cell (p:=⟨g,_,none⟩) hg).trans d1
   have hwr:gl<wr.heap.size:=Nat.lt_of_lt_of_le hgl hB.size
   have c2:(wr.alloc (.cells #[.int .i64 (a:Nat),.int .i64 (m:Nat)] 115)).cell? ⟨gl,a*6+2,none⟩=some (.int .i64 (q.2:Nat)):=(((z0z _ wr).alloc (z3z _) _).cell (p:=⟨gl,_,none⟩) hwr).trans ((hB.cell (p:=⟨gl,_,none⟩) hgl).trans d2)
   have hnew:=z8z wr (.cells #[.int .i64 (a:Nat),.int .i64 (m:Nat)] 115)
   have e0:(wr.alloc (.cells #[.int .i64 (a:Nat),.int .i64 (m:Nat)] 115)).cell? ⟨wr.heap.size,0,none⟩=some (.int .i64 (a:Nat)):=AO hnew 0
   have e1:(wr.alloc (.cells #[.int .i64 (a:Nat),.int .i64 (m:Nat)] 115)).cell? ⟨wr.heap.size,1,none⟩=some (.int .i64 (m:Nat)):=AO hnew 1
   have hB2:Below w.heap.size w (wr.alloc (.cells #[.int .i64 (a:Nat),.int .i64 (m:Nat)] 115)):=hB.alloc hB.size _
   have HB2:=hid hB2
   have hl2:Q2.length+1<=1000000/\Q2.length+1<=cap:=by
    have:=congrArg List.length hA
    simp at this
    omega
   have hlen:(((a,m)::Q2).length:Int)=(Q2.length:Int)+1:=by simp
   have l0:((a,m)::Q2).length=Q2.length+1:=rfl
   have o1:z4z.wrap (((Q2.length+1:Nat):Int)-1)=Q2.length:=by rw[z5z];omega
   have o2:(0:Int)<=Q2.length:=by omega
   have o3:(Q2.length:Int)<((Q2.length+1:Nat):Int):=by omega
   have o4:((Q2.length+1:Nat):Int)>0:=by omega
   have o5:(0:Int)<=(a:Nat):=by omega
   have o6:((a:Nat):Int)<L.length:=by omega
   have o7:(Q2.length:Int)<=cap:=by omega
   rw[l0]
   by_cases hm:m<q.2
   ·have j1:((m:Nat):Int)<(q.2:Nat):=by omega
    have hR2:R=(a,m)::Q2:=by rw[<- hR1];unfold Co;rw[if_pos (by rw[hk];exact hm)]
    subst hR2
    clear hnew d0 d1 d2 hrev hq hk hR1 hA hB hB2 hlen HP HC HQ HN
    go_upto_region 3 with fail;generalize hW:World.alloc wr _=W at *;(have inst:Nonempty (BW W):=⟨⟨_,z0z _ _⟩⟩);(have f0:=BW.cell e0);(have f1:=BW.cell e1);(have f2:=BW.cell c2);clear e0 e1 c2 c0 c1;(refine wp_region_quiet_below (by kernel_rfl) (by kernel_rfl) ?_);(repeat (go_big_quiet_step (fail)));(refine wpQuiet_nil ?_);intro _ hw';(obtain⟨pw,hw''⟩:=hw');subst hw''
    go_wp2
    go_ret
    exact⟨rfl,HB2.out.trans (pw.h.mono HB2.out.size)⟩
   ·have j1:¬ ((m:Nat):Int)<(q.2:Nat):=by omega
    have hR2:Co L Q2=R:=by rw[<- hR1];conv=>rhs;unfold Co;rw[if_neg (by rw[hk];exact hm)]
    have HA:Hid (Q=(A++[(a,m)])++Q2):=hid (by rw[hA];simp)
    have HR2:=hid hR2
    clear hnew d0 d1 d2 hrev hq hk hR1 hA hB hB2 hlen HP HC HQ HN hR2
    go_upto_region 3 with fail;generalize hW:World.alloc wr _=W at *;(have inst:Nonempty (BW W):=⟨⟨_,z0z _ _⟩⟩);(have f0:=BW.cell e0);(have f1:=BW.cell e1);(have f2:=BW.cell c2);clear e0 e1 c2 c0 c1;(refine wp_region_quiet_below (by kernel_rfl) (by kernel_rfl) ?_);(repeat (go_big_quiet_step (fail)));(refine wpQuiet_nil ?_);intro _ hw';(obtain⟨pw,hw''⟩:=hw');subst hw''
    go_wp2
    go_roundw
    case rel=>exact⟨_,Q2,HA.out,rfl,HR2.out,HB2.out.trans (pw.h.mono HB2.out.size)⟩
    case measure=>simp[WY]
def fitsAt(L:List (Nd × Nat))(n:Nat):Bool:=match L[n]? with|some p=>Gv p|none=>false
def QV(L:List (Nd × Nat))(a m n:Nat):Bool:=match L[a]?,L[n]? with|some x,some y=>MH x.1.kind (x.2:Nat) (m:Nat) y.1.kind|_,_=>false
def isGo(L:List (Nd × Nat)):Nat->Nat->List (Nat × Nat)->Bool
 | 0,n,Q=>(Co L Q).isEmpty
 | r+1,n,Q=>match Co L Q with
  | []=>false
  | p::q=>fitsAt L n&&QV L p.1 p.2 n&&isGo L r (n+1) ((n,0)::(p.1,p.2+1)::q)
def Ie(L:List (Nd × Nat)):Bool:=match L with
 | []=>false
 | p::L'=>(p.1.kind==1)&&Gv p&&isGo (p::L') L'.length 1 [(0,0)]
theorem Qs(P R:List (Nat × Nat)):DU (P++R)=DU P++DU R:=by simp[DU]
theorem mo{W:World}{B:Nat}{e:TypeId}{size g n cap:Nat}{xs:List Value}(h:W.ownsRow B e size (.slice (some ⟨g,0,none⟩) n cap) n xs)(k:Nat)(hk:k<=n):W.ownsRow B e size (.slice (some ⟨g,0,none⟩) k cap) k (xs.take (k*size)):=by
 rcases h.2 with⟨h0,_⟩|⟨g',cap',cur,h0,h2,h3,h4,h5,h6,h7⟩
 ·cases h0
 ·simp only[Value.slice.injEq,Option.some.injEq,Addr.mk.injEq,true_and,and_true] at h0
  obtain⟨rfl,rfl⟩:=h0
  refine⟨?_,.inr ⟨g,cap,cur,rfl,h2,h3,by omega,h5,h6,?_⟩⟩
  ·rw[List.length_take,h.1]
   exact Nat.min_eq_left (Nat.mul_le_mul_right _ hk)
  ·rw[<- h7,List.take_take,Nat.min_eq_left (Nat.mul_le_mul_right _ hk)]
theorem kW{W:World}{B:Nat}{e:TypeId}{size g n cap:Nat}{xs:List Value}(h:W.ownsRow B e size (.slice (some ⟨g,0,none⟩) n cap) n xs)(j:Nat)(u:Value)(hj:j<n*size):(W.setCell ⟨g,j,none⟩ u).ownsRow B e size (.slice (some ⟨g,0,none⟩) n cap) n (xs.set j u):=by
 rcases h.2 with⟨h0,_⟩|⟨g',cap',cur,h0,h2,h3,h4,h5,h6,h7⟩
 ·cases h0
 ·simp only[Value.slice.injEq,Option.some.injEq,Addr.mk.injEq,true_and,and_true] at h0
  obtain⟨rfl,rfl⟩:=h0
  have hs:=Bu (c:=cur.toList) (by simpa using h3) j u
  refine⟨by rw[List.length_set,h.1],.inr ⟨g,cap,_,rfl,h2,hs,h4,h5,by simpa using h6,?_⟩⟩
  rw[<- h7,List.toList_toArray,List.take_set]
theorem Ta{W:World}{B:Nat}{e:TypeId}{size g n cap:Nat}{xs:List Value}(h:W.ownsRow B e size (.slice (some ⟨g,0,none⟩) n cap) n xs)(j:Nat)(hj:j<n*size):W.cell? ⟨g,j,none⟩=xs[j]? /\ W.frozen? ⟨g,j,none⟩=false:=by
 rcases h.2 with⟨h0,_⟩|⟨g',cap',cur,h0,h2,h3,h4,h5,h6,h7⟩
 ·cases h0
 ·simp only[Value.slice.injEq,Option.some.injEq,Addr.mk.injEq,true_and,and_true] at h0
  obtain⟨rfl,rfl⟩:=h0
  refine⟨?_,Bj h3 j⟩
  rw[cell_of_row _ g _ _ _ _ h3,<- h7,z6z,if_pos hj,z2z]
theorem aY{W:World}{B g n cap:Nat}{P:List (Nat × Nat)}(h:W.ownsRow B 115 2 (.slice (some ⟨g,0,none⟩) n cap) n (DU P))(hn:n=P.length):PR W g P:=by
 intro i p hp
 have hi:=(z12z.1 hp).1
 obtain⟨e0,e1⟩:=dh P i p hp
 exact⟨(Ta h (i*2) (by omega)).1.trans e0,(Ta h (i*2+1) (by omega)).1.trans e1⟩
theorem qI:(prog.info? 115).map (λi=>(i.zero,i.size,i.bytes))=some (some (.agg #[.int .i64 0,.int .i64 0]),2,16):=by kernel_rfl
theorem qO:prog.underlying 116=some (.slice 115):=by kernel_rfl
theorem uh(W:World)(ty:TypeId)(v:Value)(n:Nat)(xs:List Value){B0:Nat}(hown:W.ownsRow B0 115 2 v n xs)(hB:B0<=W.heap.size)(a m:Nat)(hn:n<=4000000):∃v' w',(Builtin.append_ #[116,116] ty #[v,.slice (some ⟨W.heap.size,0,none⟩) 1 1]).run prog (W.alloc (.cells #[.int .i64 (a:Nat),.int .i64 (m:Nat)] 115))=.ok v' w'/\w'.ownsRow B0 115 2 v' (n+1) (xs++[.int .i64 (a:Nat),.int .i64 (m:Nat)])/\(W.alloc (.cells #[.int .i64 (a:Nat),.int .i64 (m:Nat)] 115)).grownBy w' v.ownBlock:=by
 obtain⟨i0,hi,hz0,hz1,hz2⟩:=info_parts qI
 have e0:=World.cell?_alloc_new W #[.int .i64 (a:Nat),.int .i64 (m:Nat)] 115
 have ho:=hown.alloc (.cells #[.int .i64 (a:Nat),.int .i64 (m:Nat)] 115)
 obtain⟨v',w',h1,h2,h3,_,h5⟩:=run_append_own_at (P:=prog) (W.alloc (.cells #[.int .i64 (a:Nat),.int .i64 (m:Nat)] 115)) B0 116 ty 115 i0 _ 2 16 qO hi hz0 hz1 hz2 rfl (by omega) v n xs ho ⟨W.heap.size,0,none⟩ 1 1 [.int .i64 (a:Nat),.int .i64 (m:Nat)] (by simp) (by
  intro j u hj
  have e1:((⟨W.heap.size,0,none⟩:Addr).add j)=⟨W.heap.size,j,none⟩:=by simp[Addr.add];intro e;exact e.symm
  rw[e1,e0 j]
  simpa using hj) (by
  intro u hu
  simp at hu
  rcases hu with rfl|rfl <;> rfl) (by unfold maxLen;omega) (by omega) (by simp;omega)
 exact⟨v',w',h1,h2,h3⟩
theorem zU(L:List (Nd × Nat))(Q:List (Nat × Nat)):∀p ∈ Co L Q,p ∈ Q:=by
 obtain⟨R,hR⟩:=PY L Q
 intro p hp
 rw[hR]
 exact List.mem_append_right _ hp
theorem jN{W:World}{B g cap:Nat}{L:List (Nd × Nat)}{Q:List (Nat × Nat)}(h:W.ownsRow B 115 2 (.slice (some ⟨g,0,none⟩) Q.length cap) Q.length (DU Q.reverse)):W.ownsRow B 115 2 (.slice (some ⟨g,0,none⟩) (Co L Q).length cap) (Co L Q).length (DU (Co L Q).reverse):=by
 obtain⟨R,hR⟩:=PY L Q
 have hl:(Co L Q).length<=Q.length:=by have:=congrArg List.length hR;simp at this;omega
 have h1:=mo h _ hl
 have e:(DU Q.reverse).take ((Co L Q).length*2)=DU (Co L Q).reverse:=by
  have e2:DU Q.reverse=DU (Co L Q).reverse++DU R.reverse:=by
   conv=>lhs;rw[hR]
   rw[List.reverse_append,Qs]
  rw[e2,List.take_append_of_le_length (by rw[O6];simp;omega),List.take_of_length_le (by rw[O6];simp;omega)]
 rw[e] at h1
 exact h1
theorem QU{W:World}{gl lc:Nat}{L:List (Nd × Nat)}(h:NR W (.slice (some ⟨gl,0,none⟩) L.length lc) L)(i:Nat)(p:Nd × Nat)(hp:L[i]? = some p):W.cell? ⟨gl,i*6,none⟩=some (.int .i64 p.1.kind)/\W.cell? ⟨gl,i*6+1,none⟩=some (.int .i64 p.1.a)/\W.cell? ⟨gl,i*6+2,none⟩=some (.int .i64 (p.2:Nat))/\W.cell? ⟨gl,i*6+3,none⟩=some (.string p.1.text)/\W.cell? ⟨gl,i*6+4,none⟩=some (.int .i64 p.1.int)/\W.cell? ⟨gl,i*6+5,none⟩=some (.int .u64 p.1.bits):=by
 obtain⟨g,cap,e,h1,h2⟩:=h
 simp only[Value.slice.injEq,Option.some.injEq,Addr.mk.injEq,true_and,and_true] at e
 obtain⟨rfl,rfl⟩:=e
 exact⟨h2 i p hp 0 (by omega),h2 i p hp 1 (by omega),h2 i p hp 2 (by omega),h2 i p hp 3 (by omega),h2 i p hp 4 (by omega),h2 i p hp 5 (by omega)⟩
theorem AAL(q:List (Nat × Nat))(a m:Nat):(DU (q.reverse++[(a,m)])).set (q.length*2+1) (.int .i64 ((m+1:Nat):Int))=DU (q.reverse++[(a,m+1)]):=by
 rw[Qs,Qs,List.set_append_right _ _ (by rw[O6];simp;omega),O6]
 simp[DU,show q.length*2+1-2*q.length=1 by omega]
theorem ABu(w:World)(v:Value)(L:List (Nd × Nat))(hN:NR w v L)(hNl:∀k,v.ownBlock=some k->k<w.heap.size)(hT:Ie L=true)(hs:∀p ∈ L,p.1.text.size<=1000000/\p.2<=1000000)(ht:Tabs w)(hm:MarksIn w) :
  Calls prog 37 #[v] w λe w'=>e=.returned (.bool true)/\Below w.heap.size w w':=by
 obtain⟨gl,lc,rfl,hL,hcell⟩:=id hN
 clear hcell
 cases L with
 | nil=>cases hT
 | cons p0 L'=>
 have hT0:=hT
 simp only[Ie,z7z] at hT0
 obtain⟨⟨hk0,hf0⟩,hgo⟩:=hT0
 have hk1:p0.1.kind=1:=by simpa using hk0
 have hgl:=hNl gl rfl
 obtain⟨L,hLe⟩:∃L,p0::L'=L:=⟨_,rfl⟩
 have hlen:L'.length+1=L.length:=by rw[<- hLe];rfl
 have h00:L[0]? = some p0:=by rw[<- hLe];rfl
 rw[hLe] at hN hL hs hgo
 rw[show (p0::L').length=L.length by rw[hLe]]
 clear hLe hT hk0
 have cf0:=Yf p0 hf0 (hs p0 (z10z h00)).1 w ht hm
 obtain⟨c0,c1,c2,c3,c4,c5⟩:=QU hN 0 p0 h00
 rw[hk1] at c0
 simp only[Nat.zero_mul,Nat.zero_add] at c0 c1 c2 c3 c4 c5
 unfold nv Ad at cf0
 rw[hk1] at cf0
 have b0:((L.length:Int)==0)=false:=by
  have:¬ (L.length:Int)=0:=by omega
  simpa using this
 have b1:(0:Int)<L.length:=by omega
 have HN:=hid hN
 have HNL:=hid hNl
 have HS:=hid hs
 have HT:=hid ht
 have HM:=hid hm
 have HG:=hid hgo
 clear hN hNl hs ht hm hgo h00 hf0
 go_enter func37,ntmps37
 go_upto_region 5 with(go_at_call 61;(with_reducible refine cf0.mono ?_);rintro e w2 ⟨rfl,hB2⟩;clear cf0)
 clear c0 c1 c2 c3 c4 c5
 have hB3:Below w.heap.size w (w2.alloc (.cells #[.int .i64 0,.int .i64 0] 115)):=hB2.alloc hB2.size _
 have ho3:(w2.alloc (.cells #[.int .i64 0,.int .i64 0] 115)).ownsRow w.heap.size 115 2 (.slice (some ⟨w2.heap.size,0,none⟩) 1 1) 1 (DU [(0,0)]):=⟨rfl,.inr ⟨w2.heap.size,1,_,rfl,hB2.size,z8z w2 _,z3z _,by unfold maxLen;omega,rfl,rfl⟩⟩
 generalize w2.alloc _=W0 at *
 go_loopw [3,4] (λpv at' wr=>∃ (r n:Nat) (Q:List (Nat × Nat)) (g cap:Nat),n+r=L.length/\at'=.int .i64 (n:Nat)/\pv=.slice (some ⟨g,0,none⟩) Q.length cap/\isGo L r n Q=true/\wr.ownsRow w.heap.size 115 2 (.slice (some ⟨g,0,none⟩) Q.length cap) Q.length (DU Q.reverse)/\Below w.heap.size w wr/\(∀p ∈ Q,p.1<n/\p.2<=n)/\Q.length<=n) (λ_ at' _=>L.length-(intOf at').toNat)
 case atStart=>exact⟨L'.length,1,[(0,0)],w2.heap.size,1,by omega,rfl,rfl,HG.out,ho3,hB3,by simp,by simp⟩
 case round=>
  obtain⟨r,n,Q,g,cap,hr,rfl,rfl,hgo,ho,hB,hQ,hQl⟩:=hrel
  clear hB3 ho3 hB2 HG
  obtain⟨hgb,hgw⟩:=ho.lt g rfl
  have cr:=sQ wr (.slice (some ⟨gl,0,none⟩) L.length lc) L (HN.out.below hB HNL.out) (λk e=>Nat.lt_of_lt_of_le (HNL.out k e) hB.size) g cap Q (aY ho (by simp)) hgw (λp hp=>by have:=(hQ p hp).1;omega) (by
   rcases ho.2 with⟨h0,_⟩|⟨g',cap',cur,h0,h2,h3,h4,_⟩
   ·cases h0
   ·cases h0;exact h4) (by omega)
  cases r with
  | zero=>
   have hn:n=L.length:=by omega
   have j1:¬ (n:Int)<L.length:=by omega
   unfold isGo at hgo
   have hr0:(Co L Q).length=0:=by simpa using hgo
   rw[hr0] at cr
   have HB:=hid hB
   clear hgo ho hB hQ hr0
   go_wp2_with (go_at_call 62;(with_reducible refine cr.mono ?_);rintro e w3 ⟨rfl,hB3⟩;(have HB3:=hid (HB.out.trans (hB3.mono HB.out.size)));clear hB3 cr)
   go_ret
   exact⟨rfl,HB3.out⟩
  | succ r=>
   have j1:(n:Int)<L.length:=by omega
   unfold isGo at hgo
   have hroW:=jN (L:=L) ho
   have hmem:=zU L Q
   obtain⟨R0,hsuf⟩:=PY L Q
   cases hQ':Co L Q with
   | nil=>rw[hQ'] at hgo;cases hgo
   | cons p q=>
   obtain⟨a,m⟩:=p
   rw[hQ'] at hgo cr hroW hmem hsuf
   simp only[z7z] at hgo
   obtain⟨⟨hfit,hmay⟩,hgo⟩:=hgo
   have hql:q.length+1<=Q.length:=by have:=congrArg List.length hsuf;simp at this;omega
   obtain⟨han,hmn⟩:=hQ (a,m) (hmem _ (by simp))
   simp only at han hmn
   have ha:a<L.length:=by omega
   have hn:n<L.length:=by omega
   have hq1:L[a]? = some L[a]:=z9z ha
   have hq2:L[n]? = some L[n]:=z9z hn
   have hsx:=HS.out L[a] (z10z hq1)
   have hsy:=HS.out L[n] (z10z hq2)
   unfold fitsAt at hfit
   unfold QV at hmay
   rw[hq2] at hfit
   rw[hq1,hq2] at hmay
   simp only at hfit hmay
   generalize L[a]=x at *
   generalize L[n]=y at *
   simp only[List.length_cons] at cr hroW
   have j2:(((q.length+1:Nat):Int)==0)=false:=by
    have:¬ ((q.length+1:Nat):Int)=0:=by omega
    simpa using this
   have j3:z4z.wrap (((q.length+1:Nat):Int)-1)=q.length:=by rw[z5z];omega
   have j4:(0:Int)<=q.length:=by omega
   have j5:(q.length:Int)<((q.length+1:Nat):Int):=by omega
   have j6:(0:Int)<=n:=by omega
   have j7:(0:Int)<=a:=by omega
   have j8:(a:Int)<L.length:=by omega
   have j9:z4z.wrap ((m:Int)+1)=((m+1:Nat):Int):=by rw[z5z];omega
   have j10:z4z.wrap ((n:Int)+1)=((n+1:Nat):Int):=by rw[z5z];omega
   have HQ:=hid hQ
   have HMEM:=hid hmem
   have HGO:=hid hgo
   have HB:=hid hB
   have HO:=hid hroW
   have HF:=hid hfit
   have HY:=hid hmay
   have HX1:=hid hq1
   have HX2:=hid hq2
   clear hQ hmem hgo hB ho hroW hfit hmay hq1 hq2 hsuf hQ'
   go_upto_region 11 with(go_at_call 62;(with_reducible refine cr.mono ?_);rintro e w3 ⟨rfl,hB3⟩;clear cr)
   have hb3:=HB.out.trans (hB3.mono HB.out.size)
   have ho3:w3.ownsRow w.heap.size 115 2 (.slice (some ⟨g,0,none⟩) (q.length+1) cap) (q.length+1) (DU (q.reverse++[(a,m)])):=by
    have:=Bq HO.out (W':=w3) (λk e=>hB3.block k (HO.out.lt k e).2)
    simpa using this
   have hn3:=HN.out.below hb3 HNL.out
   have hg3:=(ho3.lt g rfl).2
   have inst:Nonempty (BW w3):=⟨⟨_,z0z _ _⟩⟩
   obtain⟨x0,x1,x2,x3,x4,x5⟩:=QU hn3 a x HX1.out
   obtain⟨y0,y1,y2,y3,y4,y5⟩:=QU hn3 n y HX2.out
   obtain⟨z0,z1⟩:=aY ho3 (by simp) q.length (a,m) (by rw[z1z (by simp)];simp)
   have X0:=BW.cell x0;have X1:=BW.cell x1;have X2:=BW.cell x2;have X3:=BW.cell x3;have X4:=BW.cell x4;have X5:=BW.cell x5
   have Y0:=BW.cell y0;have Y1:=BW.cell y1;have Y2:=BW.cell y2;have Y3:=BW.cell y3;have Y4:=BW.cell y4;have Y5:=BW.cell y5
   have Z0:=BW.cell z0;have Z1:=BW.cell z1
   have ht3:=HT.out.below hb3
   have hm3:=HM.out.below hb3
   have ca:∀p:BW w3,Calls prog 61 #[.agg #[.int .i64 y.1.kind,.int .i64 y.1.a,.int .i64 (y.2:Nat),.string y.1.text,.int .i64 y.1.int,.int .u64 y.1.bits]] p.w' λe w''=>e=.returned (.bool true)/\∃p':BW w3,w''=p'.w':=λp=>BW.calls (p:=p) (Yf y HF.out hsy.1 p.w' (ht3.below p.h) (hm3.below p.h))
   have cb:∀p:BW w3,Calls prog 63 #[.agg #[.int .i64 x.1.kind,.int .i64 x.1.a,.int .i64 (x.2:Nat),.string x.1.text,.int .i64 x.1.int,.int .u64 x.1.bits],.int .i64 (m:Nat),.int .i64 y.1.kind] p.w' λe w''=>e=.returned (.bool true)/\∃p':BW w3,w''=p'.w':=λp=>by
    have:=qM x.1.kind x.1.a (x.2:Nat) x.1.text x.1.int x.1.bits (m:Nat) y.1.kind ⟨by omega,by have:=hsx.2;omega⟩ p.w'
    rw[HY.out] at this
    exact BW.calls (p:=p) this
   clear x0 x1 x2 x3 x4 x5 y0 y1 y2 y3 y4 y5 z0 z1 HF HY HX1 HX2 hn3 hB3
   have HB3:=hid hb3
   have HO3:=hid ho3
   clear hb3 ho3 HO HB ht3 hm3
   refine wp_region_quiet_below (by kernel_rfl) (by kernel_rfl) ?_
   repeat (go_big_quiet_step (first|(go_at_call 61;exact ca _)|(go_at_call 63;exact cb _)))
   refine wpQuiet_nil ?_
   intro _ hw'
   obtain⟨pw,hw''⟩:=hw'
   subst hw''
   clear X0 X1 X2 X3 X4 X5 Y0 Y1 Y2 Y3 Y4 Y5 Z0 Z1 ca cb inst
   have ho4:=Bq HO3.out (W':=pw.w') (λk e=>pw.h.block k (HO3.out.lt k e).2)
   have hb4:=HB3.out.trans (pw.h.mono HB3.out.size)
   generalize pw.w'=W4 at *
   clear pw HO3 HB3 hg3
   obtain⟨d1,d2⟩:=Ta ho4 (q.length*2+1) (by omega)
   rw[(dh (q.reverse++[(a,m)]) q.length (a,m) (by rw[z1z (by simp)];simp)).2] at d1
   simp only at d1
   have ho5:=kW ho4 (q.length*2+1) (.int .i64 ((m+1:Nat):Int)) (by omega)
   rw[AAL] at ho5
   have hb5:Below w.heap.size w (W4.setCell ⟨g,q.length*2+1,none⟩ (.int .i64 ((m+1:Nat):Int))):=hb4.setCell (p:=⟨g,_,none⟩) hgb _
   obtain⟨v6,w6,hrun,ho6,hg6⟩:=uh (W4.setCell ⟨g,q.length*2+1,none⟩ (.int .i64 ((m+1:Nat):Int))) 116 _ _ _ ho5 hb5.size n 0 (by omega)
   have hb6:Below w.heap.size w w6:=(hb5.alloc hb5.size _).trans (((It.AL.refl (λk=>w.heap.size<=k) _).grown hg6 (λk e=>.inl (ho5.lt k e).1)).below (Nat.le_trans hb5.size (by simp)) (λk e=>e))
   have HB6:=hid hb6
   have HO6:Hid (w6.ownsRow w.heap.size 115 2 v6 ((n,0)::(a,m+1)::q).length (DU ((n,0)::(a,m+1)::q).reverse)):=by
    have e1:((n,0)::(a,m+1)::q).reverse=(q.reverse++[(a,m+1)])++[(n,0)]:=by simp
    rw[e1,Qs]
    exact ho6
   obtain⟨g6,c6,rfl⟩:∃g6 c6,v6=.slice (some ⟨g6,0,none⟩) (q.length+1+1) c6:=by
    rcases ho6.2 with⟨_,h0⟩|⟨g',cap',cur,h0,_⟩
    ·omega
    ·exact⟨g',cap',h0⟩
   clear ho4 ho5 ho6 hb4 hb5 hb6 hg6 HN HNL HS HT HM
   go_wp2_with (at_builtin;refine Lib.wpList_append_run _ rfl (.tmp 75) (.tmp 78) 116 116 rfl _ _ (by simp[Act.eval]) (by simp[Act.eval]) _ _ hrun ?_)
   go_roundw
   case rel=>exact⟨r,n+1,_,g6,c6,by omega,rfl,rfl,HGO.out,HO6.out,HB6.out,by
    intro p hp
    simp only[List.mem_cons] at hp
    rcases hp with rfl|rfl|hp
    ·exact⟨by simp,by simp⟩
    ·exact⟨by simp;omega,by simp;omega⟩
    ·have:=HQ.out p (HMEM.out p (by simp[hp]))
     omega,by simp;omega⟩
   case measure=>show L.length-((n+1:Nat):Int).toNat<L.length-(n:Int).toNat;omega
end Go.Proofs.YtjplieobnknnpaaGreatDoor.W.Tr
