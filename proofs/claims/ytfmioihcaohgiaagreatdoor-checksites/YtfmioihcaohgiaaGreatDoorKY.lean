import Derived.Test.YtfmioihcaohgiaaGreatDoorKW
import Derived.Test.YtfmioihcaohgiaaGreatDoorKI
import Derived.Test.YtfmioihcaohgiaaGreatDoorKA
import Derived.Test.YtfmioihcaohgiaaGreatDoorJM
import Derived.Test.YtfmioihcaohgiaaGreatDoorJS
import Derived.Test.YtfmioihcaohgiaaGreatDoorJO
import Derived.Test.YtfmioihcaohgiaaGreatDoorJP
open List renaming length_cons → z0z, length_nil → z1z, length_append → z2z, mem_cons → z3z, length_drop → z4z, replicate_succ → z5z, cons_append → z8z, map_cons → z9z, mem_singleton → z10z
open Nat renaming le_trans → z7z
open Bool renaming false_eq_true → z6z
set_option maxRecDepth 1000000
set_option maxHeartbeats 8000000
namespace Go.Proofs.YtfmioihcaohgiaaGreatDoor.W.Tr
set_option linter.unusedVariables false
set_option linter.unusedSimpArgs false
theorem isK_eq(s:ByteArray):isK s=(s.data.toList==[]):=by unfold isK;rw[ByteArray.toList_eq]
theorem isK_lit(b:UInt8)(l:List UInt8):isK ⟨(b::l).toArray⟩=false:=by rw[isK_eq];simp
theorem isK_tK:isK tK=true:=by kernel_rfl
theorem size_lit(l:List UInt8):(⟨l.toArray⟩:ByteArray).size=l.length:=rfl
theorem cntK_app(a b:List ByteArray):cntK (a++b)=cntK a+cntK b:=by simp[cntK]
theorem cntK_nil:cntK []=0:=rfl
theorem cntK_rep:∀n,cntK (repT n [tK])=n
 | 0=>rfl
 | n+1=>by
  have e:repT (n+1) [tK]=tK::repT n [tK]:=by simp[repT,z5z]
  rw[e,cntK_cons,isK_tK,cntK_rep n]
  simp;omega
theorem cntK_rep2:∀n,cntK (repT n [tK,⟨#[44]⟩])=n
 | 0=>rfl
 | n+1=>by
  have e:repT (n+1) [tK,⟨#[44]⟩]=tK::⟨#[44]⟩::repT n [tK,⟨#[44]⟩]:=by simp[repT,z5z]
  rw[e,cntK_cons,cntK_cons,isK_tK,isK_lit,cntK_rep2 n]
  simp;omega
theorem cntK_com(n:Nat):cntK (comT n)=n:=by
 unfold comT
 split
 ·rename_i h;rw[h];rfl
 ·rw[cntK_app,cntK_rep2,cntK_cons,isK_tK]
  simp[cntK_nil];omega
theorem wtT_rep:∀n,wtT (repT n [tK])=n
 | 0=>rfl
 | n+1=>by
  have e:repT (n+1) [tK]=tK::repT n [tK]:=by simp[repT,z5z]
  rw[e,wtT_cons,wtT_rep n]
  show 0+1+n=n+1
  omega
theorem wtT_rep2:∀n,wtT (repT n [tK,⟨#[44]⟩])=3*n
 | 0=>rfl
 | n+1=>by
  have e:repT (n+1) [tK,⟨#[44]⟩]=tK::⟨#[44]⟩::repT n [tK,⟨#[44]⟩]:=by simp[repT,z5z]
  rw[e,wtT_cons,wtT_cons,wtT_rep2 n]
  show 0+1+(1+1+3*n)=3*(n+1)
  omega
theorem wtT_com(n:Nat):wtT (comT n)<=3*n:=by
 unfold comT
 split
 ·rename_i h;rw[h];exact Nat.le_refl _
 ·rw[wtT_app,wtT_rep2]
  show 3*(n-1)+1<=_
  omega
theorem wtT_nil:wtT []=0:=rfl
theorem tK_size:tK.size=0:=rfl
theorem k_name{t:ByteArray}(h:nameP t=true):isK t=false:=by
 cases e:isK t
 ·rfl
 ·exfalso
  rw[isK_eq] at e
  have e':t.data.toList=[]:=eq_of_beq e
  unfold nameP at h
  rw[e'] at h
  have:srcY []=[⟨endTk,0,0,0⟩]:=by kernel_rfl
  rw[this] at h
  cases h
theorem k_text{what:Int}{t:ByteArray}(h:textP what t=true)(hw:what=1\/what=3\/what=4):isK t=false:=by
 unfold textP at h
 rcases hw with rfl|rfl|rfl
 ·rw[if_pos rfl] at h
  exact k_name h
 ·cases e:isK t
  ·rfl
  ·exfalso
   have e':t=⟨#[]⟩:=by
    have:=lst t []
    rw[show (t.toList==[])=true from e] at this
    exact of_decide_eq_true this
   subst e'
   revert h
   simp only[Int.reduceEq,if_false,if_true]
   decide
 ·cases e:isK t
  ·rfl
  ·exfalso
   have e':t=⟨#[]⟩:=by
    have:=lst t []
    rw[show (t.toList==[])=true from e] at this
    exact of_decide_eq_true this
   subst e'
   have:textP 4 ⟨#[]⟩=false:=by kernel_rfl
   unfold textP at this
   rw[this] at h
   cases h
theorem esc_le(l:List UInt8):(l.flatMap escB).length<=4*l.length:=esc_len l
theorem quo_size(t:ByteArray):(quoP t).size<=4*t.size+2/\isK (quoP t)=false:=by
 have h:=esc_le t.data.toList
 have e:t.data.toList.length=t.size:=by simp
 refine⟨?_,?_⟩
 ·unfold quoP
  rw[size_lit,z2z,z2z]
  simp only[z0z,z1z]
  omega
 ·unfold quoP
  exact isK_lit _ _
theorem num_size(b:Bool)(i u:Int)(hi:-9223372036854775808<=i/\i<=9223372036854775807)(hu:0<=u/\u<18446744073709551616):(⟨(numT b i u).toArray⟩:ByteArray).size<=64/\isK ⟨(numT b i u).toArray⟩=false:=by
 obtain⟨_,h1,h2⟩:=num_y b i u hi.1 hi.2 hu.1 hu.2
 refine⟨h2,?_⟩
 cases h:numT b i u with
 | nil=>rw[h] at h1;cases h1
 | cons c l=>exact isK_lit _ _
def TkF(c:Nat)(ts:List ByteArray):Prop:=cntK ts=c/\ts.length<=2*c+8/\wtT ts<=3*c+24200
theorem tok_f(k:Int)(c:Nat)(t x:ByteArray)(hk:1<=k/\k<=31)(h1:(ruleP k).least<=(c:Nat))(h2:((c:Nat):Int)<=(ruleP k).most)(ht:textP (ruleP k).text t=true)(hs:t.size<=6000)(hx:x.size<=24002)(hX:isK x=false):TkF c (tokP k c t x):=by
 have hT:=k_text ht
 have:k=1\/k=2\/k=3\/k=4\/k=5\/k=6\/k=7\/k=8\/k=9\/k=10\/k=11\/k=12\/k=13\/k=14\/k=15\/k=16\/k=17\/k=18\/k=19\/k=20\/k=21\/k=22\/k=23\/k=24\/k=25\/k=26\/k=27\/k=28\/k=29\/k=30\/k=31:=by omega
 clear hk ht
 rcases this with rfl|rfl|rfl|rfl|rfl|rfl|rfl|rfl|rfl|rfl|rfl|rfl|rfl|rfl|rfl|rfl|rfl|rfl|rfl|rfl|rfl|rfl|rfl|rfl|rfl|rfl|rfl|rfl|rfl|rfl|rfl
 all_goals (simp only[tokP,ruleP,Int.reduceEq,reduceIte,true_or,or_true,or_self,forall_const,false_implies] at *)
 all_goals (first|((refine⟨?_,?_,?_⟩;(simp only[cntK_cons,cntK_app,cntK_nil,cntK_rep,cntK_com,isK_lit,isK_tK,hT,hX,z6z,if_false,if_true] <;> omega);(simp only[z0z,z2z,z1z,repT_len];(try have:=comT_len c);(try have:=comT_len (c-1));omega);(simp only[wtT_cons,wtT_app,wtT_nil,wtT_rep,size_lit,tK_size,z0z,z1z];(try have:=wtT_com c);(try have:=wtT_com (c-1));omega));done)|skip)
 all_goals (split <;> rename_i hq <;> (first|((refine⟨?_,?_,?_⟩;(simp only[cntK_cons,cntK_app,cntK_nil,cntK_rep,cntK_com,isK_lit,isK_tK,hT,hX,z6z,if_false,if_true] <;> omega);(simp only[z0z,z2z,z1z,repT_len];(try have:=comT_len c);(try have:=comT_len (c-1));omega);(simp only[wtT_cons,wtT_app,wtT_nil,wtT_rep,size_lit,tK_size,z0z,z1z];(try have:=wtT_com c);(try have:=wtT_com (c-1));omega));done)|(have hT:isK t=false:=Bool.eq_false_iff.2 hq;(refine⟨?_,?_,?_⟩;(simp only[cntK_cons,cntK_app,cntK_nil,cntK_rep,cntK_com,isK_lit,isK_tK,hT,hX,z6z,if_false,if_true] <;> omega);(simp only[z0z,z2z,z1z,repT_len];(try have:=comT_len c);(try have:=comT_len (c-1));omega);(simp only[wtT_cons,wtT_app,wtT_nil,wtT_rep,size_lit,tK_size,z0z,z1z];(try have:=wtT_com c);(try have:=wtT_com (c-1));omega));done)))
theorem sh_fits:∀ {f:Fo} {k:Int} {c m:Nat},ShK f k c m->∀p ∈ rowF f,fitsP p=true
 | .nil,k,c,m,_,p,hp=>by simp[rowF] at hp
 | .cons n ks r,k,c,m,⟨h1,h2,h3,h4⟩,p,hp=>by
  simp only[rowF,z3z,List.mem_append] at hp
  rcases hp with rfl|hp|hp
  ·exact h1
  ·exact sh_fits h3 p hp
  ·exact sh_fits h4 p hp
theorem kid_sum:∀f:Fo,((rowF f).map (·.2)).sum+f.len=(rowF f).length
 | .nil=>rfl
 | .cons n ks r=>by
  have h1:=kid_sum ks
  have h2:=kid_sum r
  simp only[rowF,Fo.len,z9z,List.map_append,List.sum_cons,List.sum_append,z0z,z2z]
  omega
theorem tkn_f(p:Nd × Nat)(hn:NdK p.1)(hf:fitsP p=true):TkF p.2 (tkN flP p):=by
 obtain⟨⟨k,a,t,i,b⟩,c⟩:=p
 obtain⟨hk,hs,hi,hb⟩:=hn
 unfold fitsP at hf
 simp only[Bool.and_eq_true,decide_eq_true_eq] at hf hk hs hi hb
 obtain⟨⟨⟨h1,h2⟩,h3⟩,h4⟩:=hf
 have q1:=num_size true i b hi hb
 have q2:=num_size false i b hi hb
 have q3:=quo_size t
 unfold tkN
 refine tok_f k c t _ hk h1 h2 h3 hs ?_ ?_
 ·dsimp only
  split
  ·exact z7z q2.1 (by omega)
  ·split
   ·exact z7z q3.1 (by omega)
   ·exact z7z q1.1 (by omega)
 ·dsimp only
  split
  ·exact q2.2
  ·split
   ·exact q3.2
   ·exact q1.2
theorem sums_le:∀ (L:List (Nd × Nat)),(∀p ∈ L,TkF p.2 (tkN flP p))->szT (tkN flP) L<=2*(L.map (·.2)).sum+8*L.length/\byT (tkN flP) L<=3*(L.map (·.2)).sum+24200*L.length
 | [],_=>⟨by simp[szT],by simp[byT]⟩
 | p::L,h=>by
  obtain⟨h1,h2⟩:=sums_le L (λq hq=>h q (by simp[hq]))
  obtain⟨_,h3,h4⟩:=h p (by simp)
  rw[szT_cons,byT_cons]
  simp only[z9z,List.sum_cons,z0z]
  omega
def toksF(l:Fo):List ByteArray:=(tkl (tkN flP) l).flatten
def textF(l:Fo):List UInt8:=if joinB [] (toksF l)=[] then [] else joinB [] (toksF l)++[10]
theorem fill_rep:∀ (L:List (List ByteArray)),fillT (repT L.length [tK]) L=L.flatten
 | []=>rfl
 | k::L=>by
  have e:repT (k::L).length [tK]=tK::repT L.length [tK]:=by simp[repT,z5z]
  rw[e,fill_k isK_tK,fill_rep L]
  simp
theorem tkl_len(tk:Nd × Nat->List ByteArray):∀f:Fo,(tkl tk f).length=f.len
 | .nil=>rfl
 | .cons n ks r=>by simp[tkl,Fo.len,tkl_len tk r]
theorem print_text{l:Fo}(hw:Wt .us l)(hall:AllN l)(hN:(rowF l).length<=6010):isT (rowF (Fo.one ⟨1,0,⟨#[]⟩,0,0⟩ l))=true/\∃fuel,prF (tkN flP) (rowF (Fo.one ⟨1,0,⟨#[]⟩,0,0⟩ l)) fuel [tK] 0 []=some (textF l):=by
 have er:rowF (Fo.one ⟨1,0,⟨#[]⟩,0,0⟩ l)=(⟨1,0,⟨#[]⟩,0,0⟩,l.len)::rowF l:=by simp[Fo.one,rowF]
 have hT:=wpg_isT (fo:=Fo.one ⟨1,0,⟨#[]⟩,0,0⟩ l) ⟨l,rfl,hw⟩ (by rw[er,z0z];omega)
 refine⟨hT,?_⟩
 have hsh:AllS 2 l:=wt_sh hw (by omega)
 have hsk:ShK l 1 l.len 0:=sh_all hsh λj _ _=>rfl
 have hl:=lenR l
 have hfit:∀p ∈ rowF (Fo.one ⟨1,0,⟨#[]⟩,0,0⟩ l),TkF p.2 (tkN flP p):=by
  rw[er]
  intro p hp
  rcases z3z.1 hp with rfl|hp
  ·refine tkn_f _ (nd_em 1 0 (by decide)) ?_
   refine fits_mk ⟨by kernel_rfl,by kernel_rfl⟩ ?_ ?_
   ·show (0:Int)<=_;omega
   ·show _<=(9223372036854775807:Int);omega
  ·exact tkn_f p (alln_row hall p hp) (sh_fits hsk p hp)
 obtain⟨h1,h2⟩:=sums_le _ hfit
 have hk:=kid_sum (Fo.one ⟨1,0,⟨#[]⟩,0,0⟩ l)
 have h3:(rowF (Fo.one ⟨1,0,⟨#[]⟩,0,0⟩ l)).length<=6011:=by rw[er,z0z];omega
 obtain⟨fuel,hf⟩:=prF_one (tkN flP) ⟨1,0,⟨#[]⟩,0,0⟩ l (λp hp=>(hfit p hp).1) (by omega) (by omega)
 refine⟨fuel,?_⟩
 rw[hf]
 have e:fillT (tkN flP (⟨1,0,⟨#[]⟩,0,0⟩,l.len)) (tkl (tkN flP) l)=toksF l:=by
  have e1:tkN flP (⟨1,0,⟨#[]⟩,0,0⟩,l.len)=repT l.len [tK]:=by simp only[tkN,tokP,if_true]
  rw[e1,<- tkl_len (tkN flP) l,fill_rep]
  rfl
 rw[e]
 rfl
section
variable {α β:Type} {N:Int} {s:Cs} {y:Yd}
theorem look_mem(h:look s=.ok y):y ∈ s.r/\y.c=0/\s.r=y::s.r.tail:=by
 unfold look at h
 cases hr:s.r with
 | nil=>rw[hr] at h;cases h
 | cons z l=>
  rw[hr] at h
  simp only at h
  by_cases c:z.c=0
  ·rw[if_pos c] at h
   split at h
   ·cases h
   ·cases h
    exact⟨by simp,c,rfl⟩
  ·rw[if_neg c] at h
   cases h
end
section
variable {α β:Type} {X Y:List Yd} {s t s':Cs} {y:Yd}
end
section
variable {α β:Type} {X Y:List Yd} {s t s':Cs} {y:Yd}
end
end Go.Proofs.YtfmioihcaohgiaaGreatDoor.W.Tr
namespace Go.Proofs.YtfmioihcaohgiaaGreatDoor.W
set_option linter.unusedVariables false
def Likes(Y Z:List UInt8):Prop:=Z=[]\/Z.head? = some 10\/Z.head? = Y.head? \/ Z.head? = some 32
theorem Likes.stop{Y Z:List UInt8}(h:Likes Y Z){p:UInt8->Bool}(h10:p 10=false/\p 32=false)(hy:∀c,Y.head? = some c->p c=false):∀c,Z.head? = some c->p c=false:=by
 intro c hc
 rcases h with rfl|h|h|h
 ·cases hc
 ·rw[h] at hc;injection hc with hc;rw[<- hc];exact h10.1
 ·rw[h] at hc;exact hy c hc
 ·rw[h] at hc;injection hc with hc;rw[<- hc];exact h10.2
theorem run_split(p:UInt8->Bool)(x Y:List UInt8)(h:runN p (x++Y)=x.length):(∀c ∈ x,p c=true)/\∀c,Y.head? = some c->p c=false:=by
 induction x with
 | nil=>
  refine⟨λc hc=>by simp at hc,λc hc=>?_⟩
  cases Y with
  | nil=>cases hc
  | cons d Y=>
   injection hc with hc
   subst hc
   cases e:p d
   ·rfl
   ·rw[List.nil_append,runN_cons_t e] at h;simp at h
 | cons d x ih=>
  cases e:p d
  ·rw[z8z,runN_cons_f e] at h;simp at h
  ·rw[z8z,runN_cons_t e] at h
   obtain⟨h1,h2⟩:=ih (by simpa using h)
   refine⟨λc hc=>?_,h2⟩
   rcases z3z.1 hc with rfl|hc
   ·exact e
   ·exact h1 c hc
theorem run_join(p:UInt8->Bool)(x Z:List UInt8)(h:∀c ∈ x,p c=true)(hz:∀c,Z.head? = some c->p c=false):runN p (x++Z)=x.length:=by
 induction x with
 | nil=>
  cases Z with
  | nil=>rfl
  | cons d Z=>exact runN_cons_f (hz d rfl)
 | cons d x ih=>
  rw[z8z,runN_cons_t (h d (by simp)),ih (λc hc=>h c (by simp[hc]))]
  rfl
theorem run_like(p:UInt8->Bool)(x Y Z:List UInt8)(hL:Likes Y Z)(h10:p 10=false/\p 32=false)(h:runN p (x++Y)=x.length):runN p (x++Z)=x.length:=by
 obtain⟨h1,h2⟩:=run_split p x Y h
 exact run_join p x Z h1 (hL.stop h10 h2)
theorem take_app(x Z:List UInt8):(x++Z).take x.length=x:=by simp
theorem run_zero(p:UInt8->Bool)(c:UInt8)(r q:List UInt8)(h:runN p (c::r)=0):runN p (c::q)=0:=by
 cases e:p c
 ·exact runN_cons_f e
 ·rw[runN_cons_t e] at h;omega
theorem gap_like(c:UInt8)(x Y Z:List UInt8)(h:(gapP (c::x++Y)).size=0):(gapP (c::x++Z)).size=0:=by
 have h':gapN (c::(x++Y))=0:=h
 show gapN (c::(x++Z))=0
 have hd:∀Q:List UInt8,(c::(x++Q)).head? = some 35↔c=35:=λQ=>by simp
 unfold gapN at h' ⊢
 by_cases g:c=35
 ·rw[if_pos ((hd _).2 g)] at h' ⊢
  exact run_zero _ _ _ _ h'
 ·rw[if_neg (λe=>g ((hd _).1 e))] at h' ⊢
  exact run_zero _ _ _ _ h'
theorem name_like(c:UInt8)(x Y Z:List UInt8)(hL:Likes Y Z):((nameP (c::x++Y)).size=0->(nameP (c::x++Z)).size=0)/\(¬ (nameP (c::x++Y)).size=0->(nameP (c::x++Y)).size=(c::x).length->nameP (c::x++Z)=nameP (c::x++Y)):=by
 have cn:∀Q:List UInt8,(runN nameB (c::x++Q)=0\/headB digB (c::x++Q)=true)↔(nameB c=false\/digB c=true):=by
  intro Q
  have e:headB digB (c::x++Q)=digB c:=rfl
  rw[e]
  constructor
  ·rintro(h|h)
   ·left
    cases e:nameB c
    ·rfl
    ·rw[z8z,runN_cons_t e] at h;omega
   ·exact .inr h
  ·rintro(h|h)
   ·exact .inl (runN_cons_f h)
   ·exact .inr h
 by_cases k:nameB c=false\/digB c=true
 ·have z:∀Q,nameP (c::x++Q)=noPc:=λQ=>by unfold nameP;exact if_pos ((cn Q).2 k)
  rw[z Y,z Z]
  exact⟨λ_=>rfl,λ_ _=>rfl⟩
 ·have z:∀Q,nameP (c::x++Q)=if 31<runN nameB (c::x++Q) then badPc (runN nameB (c::x++Q)) 63 else okPc (namedT ((c::x++Q).take (runN nameB (c::x++Q)))) (runN nameB (c::x++Q)):=λQ=>by unfold nameP;exact if_neg (λh=>k ((cn Q).1 h))
  have sz:∀Q,(nameP (c::x++Q)).size=runN nameB (c::x++Q):=λQ=>by rw[z Q];split <;> rfl
  refine⟨λh=>?_,λ_ h=>?_⟩
  ·rw[sz] at h
   exact absurd ((cn Y).1 (.inl h)) k
  ·rw[sz] at h
   have h2:=run_like nameB (c::x) Y Z hL (by decide) h
   rw[z Z,z Y,h,h2,take_app,take_app]
theorem ok_bad{n m:Nat}{t:Tk}(h:badPc n 61=okPc t m):False:=by
 have:=congrArg Pc.code h
 exact absurd (show (61:Int)=0 from this) (by decide)
def toksS:Nat->List UInt8->Nat->List Yd
 | 0,_,_=>[]
 | f+1,r,a=>if r=[] then [⟨endTk,a,0,0⟩] else
  if (pieceP r).size=0 then [⟨noTk,0,60,a⟩] else
  if (pieceP r).code≠0 then [⟨noTk,0,(pieceP r).code,a⟩] else
  if (pieceP r).t.kind≠0 then ⟨(pieceP r).t,a,0,0⟩::toksS f (r.drop (pieceP r).size) (a+(pieceP r).size) else toksS f (r.drop (pieceP r).size) (a+(pieceP r).size)
theorem toksY_S:∀ (f:Nat) (l:List UInt8) (a:Nat),toksY f l a=toksS f (l.drop a) a
 | 0,_,_=>rfl
 | f+1,l,a=>by
  have e:l.drop a=[]↔l.length<=a:=List.drop_eq_nil_iff
  unfold toksY toksS
  by_cases c:l.length<=a
  ·rw[if_pos c,if_pos (e.2 c)]
  ·rw[if_neg c,if_neg (λh=>c (e.1 h))]
   rw[toksY_S f l,List.drop_drop]
theorem toksS_fuel:∀ (f g:Nat) (r:List UInt8) (a:Nat),r.length<f->r.length<g->toksS f r a=toksS g r a
 | 0,_,_,_,h,_=>by omega
 | _,0,_,_,_,h=>by omega
 | f+1,g+1,r,a,hf,hg=>by
  unfold toksS
  by_cases c:r=[]
  ·rw[if_pos c,if_pos c]
  ·rw[if_neg c,if_neg c]
   by_cases c1:(pieceP r).size=0
   ·rw[if_pos c1,if_pos c1]
   ·rw[if_neg c1,if_neg c1]
    have hl:0<r.length:=List.length_pos_iff.2 c
    have e:=toksS_fuel f g (r.drop (pieceP r).size) (a+(pieceP r).size) (by rw[z4z];omega) (by rw[z4z];omega)
    rw[e]
def T(r:List UInt8)(a:Nat):List Yd:=toksS (r.length+1) r a
theorem src_T(l:List UInt8)(h:l.length<=65536):srcY l=T l 0:=by
 unfold srcY
 rw[if_neg (by omega),toksY_S]
 rfl
theorem T_nil(a:Nat):T [] a=[⟨endTk,a,0,0⟩]:=rfl
section
variable {r:List UInt8} {a:Nat}
theorem T_step(hr:r≠[]):T r a=if (pieceP r).size=0 then [⟨noTk,0,60,a⟩] else if (pieceP r).code≠0 then [⟨noTk,0,(pieceP r).code,a⟩] else if (pieceP r).t.kind≠0 then ⟨(pieceP r).t,a,0,0⟩::T (r.drop (pieceP r).size) (a+(pieceP r).size) else T (r.drop (pieceP r).size) (a+(pieceP r).size):=by
 have hl:0<r.length:=List.length_pos_iff.2 hr
 by_cases c1:(pieceP r).size=0
 ·rw[if_pos c1]
  unfold T
  conv=>lhs;unfold toksS
  rw[if_neg hr,if_pos c1]
 ·have e:=toksS_fuel r.length ((r.drop (pieceP r).size).length+1) (r.drop (pieceP r).size) (a+(pieceP r).size) (by rw[z4z];omega) (by omega)
  rw[if_neg c1]
  unfold T
  conv=>lhs;unfold toksS
  rw[if_neg hr,if_neg c1,e]
end
end Go.Proofs.YtfmioihcaohgiaaGreatDoor.W
namespace Go.Proofs.YtfmioihcaohgiaaGreatDoor.W.Tr
set_option linter.unusedVariables false
set_option linter.unusedSimpArgs false
theorem piece_isn(r:List UInt8)(h:(pieceP r).t.kind=1):pieceP r=W.nameP r:=by
 have key:∀p:Pc,p.t.kind≠1->∀q:Pc,(orPc p q).t.kind=1->orPc p q=q:=by
  intro p hp q hq
  unfold orPc at *
  split
  ·rfl
  ·rename_i c
   rw[if_neg c] at hq
   exact absurd hq hp
 have k2:(doubleP r).t.kind≠1:=by
  unfold doubleP
  split
  ·split
   ·show (5:Int)≠1;decide
   ·show (0:Int)≠1;decide
  ·show (0:Int)≠1;decide
 have k3:(wholeP r).t.kind≠1:=by
  unfold wholeP
  split
  ·show (0:Int)≠1;decide
  ·split
   ·show (4:Int)≠1;decide
   ·show (0:Int)≠1;decide
 have k4:(quotedP r).t.kind≠1:=by
  unfold quotedP
  split
  ·rcases qd_cases (quoteGo r.length (r.drop 1) 1 []) with g|⟨_,g⟩
   ·rw[g]
    rcases quote_form r.length (r.drop 1) 1 [] with⟨n,e⟩|⟨t,n,e⟩
    ·rw[e];show (0:Int)≠1;decide
    ·rw[e];show (6:Int)≠1;decide
   ·rw[g];show (0:Int)≠1;decide
  ·show (0:Int)≠1;decide
 have k5:(markP r).t.kind≠1:=by
  unfold markP
  split
  ·show (3:Int)≠1;decide
  ·show (0:Int)≠1;decide
 have k6:(orPc (doubleP r) (orPc (wholeP r) (orPc (quotedP r) (markP r)))).t.kind≠1:=by
  intro e
  have e1:=key _ k2 _ e
  rw[e1] at e
  have e2:=key _ k3 _ e
  rw[e2] at e
  have e3:=key _ k4 _ e
  rw[e3] at e
  exact k5 e
 have e0:pieceP r=orPc (W.nameP r) (orPc (doubleP r) (orPc (wholeP r) (orPc (quotedP r) (markP r)))):=key _ (show (0:Int)≠1 by decide) _ h
 have e1:pieceP r=W.nameP r:=by
  rw[e0] at h ⊢
  unfold orPc at h ⊢
  split
  ·rename_i c
   rw[if_pos c] at h
   exact absurd h k6
  ·rfl
 exact e1
theorem piece_name(r:List UInt8)(h:(pieceP r).t.kind=1):pieceP r=okPc ⟨1,bytesOf (r.take (pieceP r).size),0,0⟩ (pieceP r).size:=by
 have e1:=piece_isn r h
 rw[e1] at h ⊢
 unfold W.nameP at h ⊢
 split
 ·rename_i c;rw[if_pos c] at h;exact absurd h (by decide)
 ·rename_i c
  rw[if_neg c] at h
  split
  ·rename_i c2;rw[if_pos c2] at h;exact absurd h (by show ¬ (0:Int)=1;decide)
  ·rename_i c2
   rw[if_neg c2] at h
   show okPc (namedT _) _=okPc ⟨1,bytesOf _,0,0⟩ _
   have hn:namedT (r.take (runN nameB r))=⟨1,bytesOf (r.take (runN nameB r)),0,0⟩:=by
    have h':(namedT (r.take (runN nameB r))).kind=1:=h
    unfold namedT at h' ⊢
    split
    ·rename_i c3;rw[if_pos c3] at h';exact absurd h' (by show ¬ (5:Int)=1;decide)
    ·rename_i c3
     rw[if_neg c3] at h'
     split
     ·rename_i c4;rw[if_pos c4] at h';exact absurd h' (by show ¬ (5:Int)=1;decide)
     ·rename_i c4
      rw[if_neg c4] at h'
      split
      ·rename_i c5;rw[if_pos c5] at h';exact absurd h' (by show ¬ (2:Int)=1;decide)
      ·rfl
   rw[hn]
   rfl
def Rn{α:Type}(F:Nat->Pm α)(s:Cs)(r:Rs α):Prop:=∃n,∀m,n<=m->F m s=some r
section
variable {α β:Type} {F:Nat->Pm α} {s:Cs} {y:Yd} {L:List Yd}
end
section
variable {x y:Fo} {ys:List Yd} {z:Yd} {L:List Yd} {o:Int}
end
section
variable {x y:Fo} {n:Nd}
end
section
variable {n:Nd}
end
section
variable {n:Nd} {x y v c b d l:Fo}
end
section
variable {n:Nd} {x y v c b f t:Fo}
end
section
variable {n lb:Nd} {x y v c b f t l:Fo}
end
section
variable {s:Cs} {y:Yd}
theorem Wv.look{Q:Yd->Cs->Prop}(h:∀y,Tr.look s=.ok y->Q y s):Wp lookM s Q:=by
 intro b s2 e
 unfold lookM at e
 cases hl:Tr.look s with
 | error _=>rw[hl] at e;cases e
 | ok y=>rw[hl] at e;cases e;exact h _ hl
end
theorem flt_range(r:List UInt8)(h:r.take 2=hexT)(h2:(readF (r.take (dblN r))).2=0):0<=(readF (r.take (dblN r))).1/\(readF (r.take (dblN r))).1<=9218868437227405312:=by
 have hd:2<=dblN r:=by unfold dblN;omega
 obtain⟨q,e⟩:∃q,r.take (dblN r)=48::120::q:=by
  have e1:(r.take (dblN r)).take 2=hexT:=by rw[List.take_take,Nat.min_eq_left hd,h]
  match hq:r.take (dblN r),e1 with
  | [],e1=>cases e1
  | [a],e1=>exact absurd e1 (by intro h;cases h)
  | a::b::q,e1=>
   have e2:[a,b]=hexT:=e1
   have e3:[a,b]=[48,120]:=e2
   injection e3 with x1 x2
   injection x2 with x2
   exact⟨q,by rw[x1,x2]⟩
 rw[e] at h2 ⊢
 have n1:¬ (48::120::q:List UInt8)=nanT:=by intro h;injection h with h;exact absurd h (by decide)
 have n2:¬ (48::120::q:List UInt8)=infT:=by intro h;injection h with h;exact absurd h (by decide)
 have n3:¬ (48::120::q:List UInt8)=45::infT:=by intro h;injection h with h;exact absurd h (by decide)
 have e4:readF (48::120::q)=if 64<(48::120::q:List UInt8).length then (0,2) else readS 0 (48::120::q):=by
  unfold readF
  rw[if_neg n1,if_neg n2,if_neg n3]
  rfl
 rw[e4] at h2 ⊢
 split
 ·exact⟨by omega,by omega⟩
 ·rename_i c
  rw[if_neg c] at h2
  unfold readS at h2 ⊢
  simp only at h2 ⊢
  cases hb:readBody q with
  | none=>rw[hb] at h2;exact absurd h2 (by show ¬ (20:Int)=0;decide)
  | some p=>
   obtain⟨N,low⟩:=p
   rw[hb] at h2
   simp only at h2 ⊢
   cases hx:exactP N low with
   | none=>rw[hx] at h2;exact absurd h2 (by show ¬ (21:Int)=0;decide)
   | some a=>
    obtain⟨r0,r1⟩:=exact_range _ _ _ hx
    simp only
    omega
theorem readD_pos(d:List UInt8):0<=(readD false d).1:=by
 unfold readD
 split
 ·simp only[z6z,if_false]
  split
  ·exact Int.natCast_nonneg _
  ·exact Int.le_refl _
 ·exact Int.le_refl _
def TkH(M:Nat)(t:Tk):Prop:=TkG t/\t.text.size<=M/\(-9223372036854775808<=t.int/\t.int<=9223372036854775807)/\0<=t.bits/\t.bits<18446744073709551616
theorem tkh_mk{M:Nat}{k:Int}{x:ByteArray}(h:k=2\/k=3\/k=6)(hx:x.size<=M):TkH M ⟨k,x,0,0⟩:=by
 refine⟨⟨λe=>?_,λ_=>⟨rfl,rfl⟩,λe=>?_,λe=>?_,λ_=>⟨rfl,rfl⟩⟩,hx,by simp,by simp,by simp⟩
 all_goals (simp only at e;omega)
theorem tkh_flt{M:Nat}{b:Int}(h0:0<=b)(h:b<=9218868437227405312\/b=9221120237041090560):TkH M ⟨5,⟨#[]⟩,0,b⟩:=by
 refine⟨⟨λe=>?_,λe=>?_,λe=>?_,λ_=>⟨rfl,rfl,h⟩,λe=>?_⟩,Nat.zero_le _,by simp,h0,by simp only;omega⟩
 all_goals (simp only at e;omega)
theorem tkh_int{M:Nat}{i:Int}(h0:0<=i)(h:i<=9223372036854775807):TkH M ⟨4,⟨#[]⟩,i,0⟩:=by
 refine⟨⟨λe=>?_,λe=>?_,λ_=>⟨rfl,h0,rfl⟩,λe=>?_,λe=>?_⟩,Nat.zero_le _,by simp only;omega,by simp,by simp⟩
 all_goals (simp only at e;omega)
theorem quote_size:∀ (f:Nat) (r:List UInt8) (k:Nat) (acc:List UInt8) (t:Tk) (m:Nat),quoteGo f r k acc=okPc t m->t.text.size+k<=acc.length+m
 | 0,r,k,acc,t,m,h=>(ok_bad (n:=k) (m:=m) (t:=t) (by simpa [quoteGo] using h)).elim
 | f+1,[],k,acc,t,m,h=>(ok_bad ((quote_end (f+1) k acc).symm.trans h)).elim
 | f+1,c::q,k,acc,t,m,h=>by
  by_cases c1:c=34
  ·have e:=(quote_stop (f+1) k c q acc (by omega) c1).symm.trans h
   have e1:=congrArg Pc.size e
   have e2:=congrArg (λp=>p.t.text) e
   have e1:k+1=m:=e1
   have e2:bytesOf acc=t.text:=e2
   rw[<- e2]
   show acc.length+k<=_
   omega
  ·by_cases c2:(speltP (c::q)).2=0
   ·exact(ok_bad ((quote_bad (f+1) k c q acc (by omega) c1 c2).symm.trans h)).elim
   ·have h3:=quote_size f _ _ _ t m ((quote_on f k c q acc c1 c2).symm.trans h)
    rw[z2z] at h3
    simp only[z0z,z1z] at h3
    omega
def Gd2(r:List UInt8)(p:Pc):Prop:=p.size≠0->p.code=0->p.t.kind≠0->p.t.kind≠1->TkH p.size p.t
theorem gd_or{r:List UInt8}{a b:Pc}(ha:Gd2 r a)(hb:Gd2 r b):Gd2 r (orPc a b):=by
 unfold orPc
 split
 ·exact hb
 ·exact ha
theorem gd_no(r:List UInt8):Gd2 r noPc:=λh=>absurd rfl h
theorem gd_bad(r:List UInt8)(n:Nat)(c:Int):Gd2 r (badPc n c):=λ_ _ h=>absurd rfl h
theorem piece_gd(r:List UInt8)(hr:r.length<=6000):Gd2 r (pieceP r):=by
 unfold pieceP
 refine gd_or (λ_ _ h=>absurd rfl h) (gd_or ?_ (gd_or ?_ (gd_or ?_ (gd_or ?_ ?_))))
 ·unfold W.nameP
  split
  ·exact gd_no r
  ·split
   ·exact gd_bad r _ _
   ·intro _ _ _ hk
    have hle:=runN_le nameB r
    have hs:(bytesOf (r.take (runN nameB r))).size<=runN nameB r:=by
     show (r.take (runN nameB r)).length<=_
     rw[List.length_take]
     omega
    show TkH (runN nameB r) (namedT _)
    unfold okPc namedT at hk
    simp only at hk
    unfold namedT
    split
    ·exact tkh_flt (by omega) (.inl (by omega))
    ·split
     ·exact tkh_flt (by omega) (.inr rfl)
     ·split
      ·exact tkh_mk (.inl rfl) hs
      ·rename_i c1 c2 c3
       rw[if_neg c1,if_neg c2,if_neg c3] at hk
       exact absurd rfl hk
 ·unfold doubleP
  split
  ·rename_i c
   split
   ·rename_i c2
    intro _ _ _ _
    obtain⟨h1,h2⟩:=flt_range r c c2
    exact tkh_flt h1 (.inl h2)
   ·exact gd_bad r _ _
  ·exact gd_no r
 ·unfold wholeP
  split
  ·exact gd_no r
  ·rename_i c
   split
   ·rename_i c2
    intro _ _ _ _
    have hrg:=readI_range (r.take (runN digB r)) (readI (r.take (runN digB r))).1 (readI (r.take (runN digB r))).2 rfl
    have hpos:0<=(readI (r.take (runN digB r))).1:=by
     have hall:∀x ∈ r.take (runN digB r),digB x=true:=by
      intro x hx
      have e:r.take (runN digB r)=r.takeWhile digB:=take_runN digB r
      rw[e] at hx
      exact List.all_eq_true.1 (List.all_takeWhile (l:=r) (p:=digB)) x hx
     rw[readI_digs _ hall]
     split
     ·simp
     ·exact readD_pos _
    exact tkh_int hpos (by omega)
   ·exact gd_bad r _ _
 ·unfold quotedP
  split
  ·rcases qd_cases (quoteGo r.length (r.drop 1) 1 []) with g|⟨_,g⟩
   ·rw[g]
    rcases quote_form r.length (r.drop 1) 1 [] with⟨n,e⟩|⟨t,n,e⟩
    ·rw[e];exact gd_bad r _ _
    ·rw[e]
     intro _ _ _ _
     have:=quote_size _ _ _ _ _ _ e
     exact tkh_mk (.inr (.inr rfl)) (by show t.size<=n;simp only[z1z] at this;omega)
   ·rw[g];exact gd_bad r _ _
  ·exact gd_no r
 ·unfold markP
  split
  ·rename_i m _
   intro _ _ _ _
   exact tkh_mk (.inr (.inl rfl)) (Nat.le_refl _)
  ·exact gd_no r
theorem name_alone(x Y:List UInt8)(b:ByteArray)(hx:x≠[])(hp:pieceP (x++Y)=okPc ⟨1,b,0,0⟩ x.length):pieceP x=okPc ⟨1,b,0,0⟩ x.length:=by
 have hn:=piece_isn (x++Y) (by rw[hp];rfl)
 have h:=hn.symm.trans hp
 cases x with
 | nil=>exact absurd rfl hx
 | cons c x=>
  have hpos:¬ (c::x).length=0:=by simp
  have g2:¬ (W.nameP (c::x++Y)).size=0:=by rw[h];exact hpos
  have g1:(gapP (c::x++Y)).size=0:=by
   by_cases g:(gapP (c::x++Y)).size=0
   ·exact g
   ·exfalso
    have h0:=hp
    unfold pieceP at h0
    rw[orPc_some g] at h0
    have:=congrArg (λp=>p.t.kind) h0
    exact absurd this (by show ¬ (0:Int)=1;decide)
  have hz:=(name_like c x Y [] (.inl rfl)).2 g2 (congrArg Pc.size h)
  have hg0:=gap_like c x Y [] g1
  rw[List.append_nil] at hz hg0
  unfold pieceP
  rw[orPc_none hg0,orPc_some (by rw[hz];exact g2),hz,h]
theorem piece_tkh(r:List UInt8)(hr:r.length<=6000)(h1:(pieceP r).size≠0)(h2:(pieceP r).code=0)(h3:(pieceP r).t.kind≠0):TkH (pieceP r).size (pieceP r).t:=by
 by_cases hk:(pieceP r).t.kind=1
 ·have hp:=piece_name r hk
  have hle:=piece_le r
  obtain⟨n,hn⟩:∃n,(pieceP r).size=n:=⟨_,rfl⟩
  rw[hn] at hp h1 hle ⊢
  rw[hp]
  have hx:(r.take n)++(r.drop n)=r:=List.take_append_drop ..
  have hxl:(r.take n).length=n:=by rw[List.length_take];omega
  have hpx:pieceP (r.take n)=okPc ⟨1,bytesOf (r.take n),0,0⟩ (r.take n).length:=by
   exact name_alone (r.take n) (r.drop n) _ (by intro e;rw[e] at hxl;simp at hxl;omega) (by rw[hx,hxl];exact hp)
  have hnm:nameP (bytesOf (r.take n))=true:=by
   unfold nameP
   have:=src_one (r.take n) ⟨1,bytesOf (r.take n),0,0⟩ hpx (by omega) (by omega) (by show ¬ (1:Int)=0;decide)
   rw[show (bytesOf (r.take n)).data.toList=r.take n from rfl,this]
   simp
  refine⟨⟨λ_=>⟨hnm,rfl,rfl⟩,λe=>?_,λe=>?_,λe=>?_,λe=>?_⟩,?_,by simp[okPc],by simp[okPc],by simp[okPc]⟩
  ·simp only[okPc] at e;omega
  ·simp only[okPc] at e;omega
  ·simp only[okPc] at e;omega
  ·simp only[okPc] at e;omega
  ·show (r.take n).length<=n
   omega
 ·exact piece_gd r hr h1 h2 h3 hk
theorem T_has(n:Nat):∀ (r:List UInt8) (a:Nat),r.length<=n->r.length<=6000->(∀y ∈ T r a,TkOk y/\(y.c=0->TkG y.t))/\((T r a).map (λy=>y.t.text.size)).sum<=r.length:=by
 have no:∀ (a c f:Int),TkOk ⟨noTk,a,c,f⟩:=λa c f=>⟨(by show (⟨#[]⟩:ByteArray).size<=6000;decide),(by show (-9223372036854775808:Int)<=0/\(0:Int)<=9223372036854775807;decide),(by show (0:Int)<=0;decide),(by show (0:Int)<18446744073709551616;decide)⟩
 have ne:∀ (a c f:Int),TkOk ⟨endTk,a,c,f⟩:=λa c f=>⟨(by show (⟨#[]⟩:ByteArray).size<=6000;decide),(by show (-9223372036854775808:Int)<=0/\(0:Int)<=9223372036854775807;decide),(by show (0:Int)<=0;decide),(by show (0:Int)<18446744073709551616;decide)⟩
 have ge:TkG endTk:=⟨λe=>absurd e (by decide),λe=>absurd e (by decide),λe=>absurd e (by decide),λe=>absurd e (by decide),λe=>absurd e (by decide)⟩
 induction n with
 | zero=>
  intro r a hr _
  have hr0:r=[]:=List.eq_nil_of_length_eq_zero (by omega)
  subst hr0
  rw[T_nil]
  refine⟨λy hy=>?_,by show 0+0<=0;omega⟩
  rw[z10z.1 hy]
  exact⟨ne _ _ _,λ_=>ge⟩
 | succ n ih=>
  intro r a hr h6
  cases r with
  | nil=>exact ih [] a (by simp) (by simp)
  | cons c r=>
   rw[T_step (by simp)]
   have hle:=piece_le (c::r)
   have hdl:¬ (pieceP (c::r)).size=0->((c::r).drop (pieceP (c::r)).size).length<=n:=λh=>by rw[z4z];simp at hr ⊢;omega
   have hd6:((c::r).drop (pieceP (c::r)).size).length<=6000:=by rw[z4z];omega
   split
   ·refine⟨λy hy=>?_,by show 0+0<=_;omega⟩
    rw[z10z.1 hy]
    exact⟨no _ _ _,λe=>absurd e (by show ¬ (60:Int)=0;decide)⟩
   ·rename_i c1
    split
    ·rename_i c2
     refine⟨λy hy=>?_,by show 0+0<=_;omega⟩
     rw[z10z.1 hy]
     exact⟨no _ _ _,λe=>absurd e c2⟩
    ·rename_i c2
     obtain⟨i1,i2⟩:=ih ((c::r).drop (pieceP (c::r)).size) (a+(pieceP (c::r)).size) (hdl c1) hd6
     rw[z4z] at i2
     split
     ·rename_i c3
      have ht:=piece_tkh (c::r) h6 c1 (by simpa using c2) c3
      refine⟨λy hy=>?_,?_⟩
      ·rcases z3z.1 hy with rfl|hy
       ·exact⟨⟨z7z ht.2.1 (by omega),ht.2.2.1,ht.2.2.2⟩,λ_=>ht.1⟩
       ·exact i1 y hy
      ·rw[z9z,List.sum_cons]
       have:=ht.2.1
       simp only
       omega
     ·exact⟨i1,by omega⟩
theorem kid_le:∀f:Fo,∀p ∈ rowF f,p.2<=(rowF f).length
 | .nil,p,hp=>by cases hp
 | .cons n ks r,p,hp=>by
  simp only[rowF,z3z,List.mem_append] at hp
  simp only[rowF,z0z,z2z]
  rcases hp with rfl|hp|hp
  ·have:=lenR ks
   simp only
   omega
  ·have:=kid_le ks p hp
   omega
  ·have:=kid_le r p hp
   omega
theorem round_half(l:List UInt8)(hl:l.length<=6000){fo:Fo}{s':Cs}(h:Ends l (.ok (fo,s'))):∃u,fo=Fo.one ⟨1,0,⟨#[]⟩,0,0⟩ u/\isT (rowF fo)=true/\(∀p ∈ rowF fo,NdOk p/\0<=p.1.bits/\p.1.bits<18446744073709551616)/\(∃fuel,prF (tkN flP) (rowF fo) fuel [tK] 0 []=some (textF u)):=by
 obtain⟨n,h⟩:=h
 have hsl:=srcY_len l
 have hrow:=row_le h
 rw[src_T l (by omega)] at h hsl hrow
 obtain⟨hT,hS⟩:=T_has l.length l 0 (Nat.le_refl _) hl
 obtain⟨⟨u,rfl,hu⟩,_⟩:=wt_P n (.pg .nil) ⟨T l 0,0⟩ (λy hy c=>(hT y hy).2 c) Wt.unil fo s' h
 obtain⟨⟨_,hall,_⟩,_⟩:=nodes_ok n (.pg .nil) ⟨T l 0,0⟩ (λy hy=>(hT y hy).1) trivial _ s' h
 have er:rowF (Fo.one ⟨1,0,⟨#[]⟩,0,0⟩ u)=(⟨1,0,⟨#[]⟩,0,0⟩,u.len)::rowF u:=by simp[Fo.one,rowF]
 rw[er,z0z] at hrow
 simp only at hrow hsl
 have hN:(rowF u).length<=6010:=by omega
 obtain⟨hIs,hpr⟩:=print_text hu hall hN
 refine⟨u,rfl,hIs,?_,hpr⟩
 rw[er]
 intro p hp
 rcases z3z.1 hp with rfl|hp
 ·have:=lenR u
  exact⟨⟨by show (1:Int)<=1/\(1:Int)<=31;decide,Nat.zero_le _,by show u.len<=1000000;omega,by show (-9223372036854775808:Int)<=0/\(0:Int)<=9223372036854775807;decide⟩,by show (0:Int)<=0;decide,by show (0:Int)<18446744073709551616;decide⟩
 ·obtain⟨hk,hs,hi,hbb⟩:=alln_row hall p hp
  have:=kid_le u p hp
  exact⟨⟨hk,by omega,by omega,hi⟩,hbb.1,hbb.2⟩
end Go.Proofs.YtfmioihcaohgiaaGreatDoor.W.Tr
