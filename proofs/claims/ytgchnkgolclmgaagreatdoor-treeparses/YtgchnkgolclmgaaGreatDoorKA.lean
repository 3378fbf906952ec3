import Derived.Test.YtgchnkgolclmgaaGreatDoorJX
import Derived.Test.YtgchnkgolclmgaaGreatDoorJZ
import Derived.Sort.Grow
import Derived.Deep.QuietTactic
import Derived.BigQuiet
open Nat renaming le_refl → aL
open Go.World renaming alloc_heap_new → bO
open Go.RowKit.Below renaming refl → aH
open Go.IntKind renaming i64 → aY, wrap_i64 → ay
open Go.Proofs.Tryz
set_option maxRecDepth 1000000
set_option maxHeartbeats 8000000
namespace Go.Proofs.YtgchnkgolclmgaaGreatDoor.W.Tr
set_option linter.unusedVariables false
set_option linter.unusedSimpArgs false
def sz(f:Fo):Nat:=(dM f).length
theorem mJ:sz .nil=0:=rfl
theorem kZ(n:Nd)(k r:Fo):sz (.cons n k r)=sz k+sz r+1:=by simp[sz,dM]
theorem oO(f g:Fo):sz (f.app g)=sz f+sz g:=by simp[sz,oQ]
theorem oN(n:Nd)(k:Fo):sz (Fo.one n k)=sz k+1:=by simp[Fo.one,kZ,mJ]
def Wp{α:Type}(x:Pm α)(s:Cs)(Q:α->Cs->Prop):Prop:=∀a s',x s=some (.ok (a,s'))->Q a s'
section
variable {α β:Type} {s:Cs}
theorem Wp.bind{x:Pm α}{f:α->Pm β}{Q:β->Cs->Prop}(h:Wp x s (λa s'=>Wp (f a) s' Q)):Wp (x.bind f) s Q:=by
 intro b s2 e
 unfold Pm.bind at e
 cases hx:x s with
 | none=>rw[hx] at e;cases e
 | some r=>
  rw[hx] at e
  cases r with
  | error _=>cases e
  | ok p=>
   obtain⟨a,s1⟩:=p
   exact h a s1 hx b s2 e
theorem Wp.pure{a:α}{Q:α->Cs->Prop}(h:Q a s):Wp (Pm.pure a) s Q:=by
 intro b s2 e
 cases e
 exact h
theorem Wp.fail{e:jv}{Q:α->Cs->Prop}:Wp (lN e) s Q:=by
 intro b s2 e
 cases e
theorem Wp.look{Q:Yd->Cs->Prop}(h:∀y,Q y s):Wp dW s Q:=by
 intro b s2 e
 unfold dW at e
 cases hl:Tr.look s with
 | error _=>rw[hl] at e;cases e
 | ok y=>rw[hl] at e;cases e;exact h _
theorem Wp.st{Q:Cs->Cs->Prop}(h:Q s s):Wp stM s Q:=by
 intro b s2 e
 cases e
 exact h
theorem Wp.take{Q:Yd->Cs->Prop}(h:∀y s',s'.r.length+1<=s.r.length->Q y s'):Wp eG s Q:=by
 intro b s2 e
 unfold eG at e
 cases hl:Tr.look s with
 | error _=>rw[hl] at e;cases e
 | ok y=>
  rw[hl] at e
  cases e
  refine h _ _ ?_
  unfold Tr.look at hl
  cases hr:s.r with
  | nil=>rw[hr] at hl;cases hl
  | cons z zs=>simp[behind,hr]
theorem Wp.ite{c:Prop}[Decidable c]{x y:Pm α}{Q:α->Cs->Prop}(h:c->Wp x s Q)(g:¬c->Wp y s Q):Wp (if c then x else y) s Q:=by
 by_cases k:c
 ·rw[if_pos k];exact h k
 ·rw[if_neg k];exact g k
theorem Wp.want{t:ByteArray}{Q:Yd->Cs->Prop}(h:∀y s',s'.r.length+1<=s.r.length->Q y s'):Wp (dw t) s Q:=
 Wp.bind (Wp.look λy=>Wp.ite (λ_=>Wp.take h) (λ_=>Wp.fail))
theorem Wp.name{Q:Yd->Cs->Prop}(h:∀y s',s'.r.length+1<=s.r.length->Q y s'):Wp kX s Q:=
 Wp.bind (Wp.look λy=>Wp.ite (λ_=>Wp.take h) (λ_=>Wp.fail))
end
def base:Nt->Nat
 | .xB l=>sz l | .xH l=>sz l | .xM _ l=>sz l | .wI l=>sz l | .oq _ l=>sz l | .pg l=>sz l+1 | .zU l=>sz l | .D6 _ ks=>sz ks
 | _=>0
theorem Cm:∀ (n:Nat) (nt:Nt) (s:Cs),Wp (P n nt) s (λa s'=>sz a+s'.r.length<=base nt+s.r.length)
 | 0,nt,s=>by intro a s' e;cases e
 | n+1,nt,s=>by
  have ih:∀ (nt:Nt) (s:Cs) (Q:Fo->Cs->Prop),(∀a s',sz a+s'.r.length<=base nt+s.r.length->Q a s')->Wp (P n nt) s Q:=λnt s Q h a s' e=>h a s' (Cm n nt s a s' e)
  cases nt with
  | pl=>
   unfold P
   refine Wp.bind (ih _ _ _ λf s1 h1=>?_)
   refine Wp.bind (Wp.look λz=>?_)
   cases f with
   | nil=>(repeat' (first|(with_reducible refine Wp.want ?_;intro _ _ _)|(with_reducible refine Wp.name ?_;intro _ _ _)|(with_reducible refine Wp.bind ?_)|(with_reducible refine Wp.look ?_;intro _)|(with_reducible refine Wp.take ?_;intro _ _ _)|(with_reducible refine Wp.st ?_)|(with_reducible exact Wp.fail)|(with_reducible refine Wp.pure ?_)|(with_reducible refine ih _ _ _ ?_;intro _ _ _)|(with_reducible refine Wp.ite ?_ ?_ <;> intro _)));clear ih;(simp only[base,oN,oO,mJ,kZ] at *;omega)
   | cons m ks r=>(repeat' (first|(with_reducible refine Wp.want ?_;intro _ _ _)|(with_reducible refine Wp.name ?_;intro _ _ _)|(with_reducible refine Wp.bind ?_)|(with_reducible refine Wp.look ?_;intro _)|(with_reducible refine Wp.take ?_;intro _ _ _)|(with_reducible refine Wp.st ?_)|(with_reducible exact Wp.fail)|(with_reducible refine Wp.pure ?_)|(with_reducible refine ih _ _ _ ?_;intro _ _ _)|(with_reducible refine Wp.ite ?_ ?_ <;> intro _))) <;> clear ih <;> (simp only[base,oN,oO,mJ,kZ] at *;omega)
  | lb=>
   unfold P
   (repeat' (first|(with_reducible refine Wp.want ?_;intro _ _ _)|(with_reducible refine Wp.name ?_;intro _ _ _)|(with_reducible refine Wp.bind ?_)|(with_reducible refine Wp.look ?_;intro _)|(with_reducible refine Wp.take ?_;intro _ _ _)|(with_reducible refine Wp.st ?_)|(with_reducible exact Wp.fail)|(with_reducible refine Wp.pure ?_)|(with_reducible refine ih _ _ _ ?_;intro _ _ _)|(with_reducible refine Wp.ite ?_ ?_ <;> intro _)))
   all_goals clear ih
   ·rename_i f s1 h1
    cases f with
    | nil=>(simp only[base,oN,oO,mJ,kZ] at *;omega)
    | cons m ks r=>(simp only[base,oN,oO,mJ,kZ] at *;omega)
   ·rename_i f s1 h1
    cases f with
    | nil=>(simp only[base,oN,oO,mJ,kZ] at *;omega)
    | cons m ks r=>(simp only[base,oN,oO,mJ,kZ] at *;omega)
  | _=>
   unfold P
   (repeat' (first|(with_reducible refine Wp.want ?_;intro _ _ _)|(with_reducible refine Wp.name ?_;intro _ _ _)|(with_reducible refine Wp.bind ?_)|(with_reducible refine Wp.look ?_;intro _)|(with_reducible refine Wp.take ?_;intro _ _ _)|(with_reducible refine Wp.st ?_)|(with_reducible exact Wp.fail)|(with_reducible refine Wp.pure ?_)|(with_reducible refine ih _ _ _ ?_;intro _ _ _)|(with_reducible refine Wp.ite ?_ ?_ <;> intro _)))
   all_goals clear ih
   all_goals (first|(simp only[base,oN,oO,mJ,kZ] at *;omega)|(split at * <;> (simp only[base,oN,oO,mJ,kZ] at *;omega)))
theorem R6{n:Nat}{s s':Cs}{fo:Fo}(h:P n (.pg .nil) s=some (.ok (fo,s'))):(dM fo).length<=s.r.length+1:=by
 have:=Cm n (.pg .nil) s fo s' h
 simp only[base,mJ] at this
 unfold sz at this
 omega
open Go.ChangeShapes Go.WideShapes Go.RowKit Go.Shelf
def Ends(l:List UInt8)(r:Rs Fo):Prop:=∃n,P n (.pg .nil) ⟨gU l,0⟩=some r
theorem ends(l:List UInt8):∃r,Ends l r:=by
 obtain⟨n,r,h⟩:=Tz (.pg .nil) ⟨gU l,0⟩
 exact⟨r,n,h⟩
theorem Hq(l:List UInt8):(gU l).length<=65537:=by
 have:=rH l
 by_cases h:65536<l.length
 ·unfold gU
  rw[if_pos h]
  simp
 ·omega
theorem Ends.few{l:List UInt8}{fo:Fo}{s':Cs}(h:Ends l (.ok (fo,s'))):(dM fo).length<=65538:=by
 obtain⟨n,h⟩:=h
 have:=R6 h
 have:=Hq l
 simp only at *
 omega
theorem Ie(s:ByteArray)(hs:s.size<=1000000)(w:World)(ht:Tabs w)(hm:MarksIn w){f:jv}(h:Ends s.data.toList (.error f)) :
  Calls prog 5 #[.string s] w λe w'=>e=.returned (.tuple #[.slice none 0 0,fv f])/\Below w.heap.size w w':=by
 obtain⟨n,h⟩:=h
 exact Ic s hs w ht hm n f h
theorem wL(s:ByteArray)(hs:s.size<=1000000)(w:World)(ht:Tabs w)(hm:MarksIn w){fo:Fo}{s':Cs}(h:Ends s.data.toList (.ok (fo,s'))) :
  Calls prog 5 #[.string s] w λe w'=>∃r,e=.returned (.tuple #[r,fv (0,0)])/\Below w.heap.size w w'/\w'.ownsRow w.heap.size 31 6 r (dM fo).length (eH (dM fo)):=by
 have hb:=h.few
 obtain⟨n,h⟩:=h
 exact L9 s hs w ht hm n fo s' h (by omega)
def awS:List UInt8:=[102,110,32,102,40,97,41,32,123,32,114,101,116,117,114,110,32,97,32,45,32,49,32,45,32,97,59,32,125]
def awT:Fo:=.one ⟨1,0,⟨#[]⟩,0,0⟩ (.one ⟨3,3,⟨#[102]⟩,0,0⟩ ((Fo.one ⟨4,5,⟨#[97]⟩,0,0⟩ .nil).app (.one ⟨5,8,⟨#[]⟩,0,0⟩ (.one ⟨15,10,⟨#[]⟩,0,0⟩
 (.one ⟨21,23,⟨#[45]⟩,0,0⟩ ((Fo.one ⟨21,19,⟨#[45]⟩,0,0⟩ ((Fo.one ⟨25,17,⟨#[97]⟩,0,0⟩ .nil).app (.one ⟨26,21,⟨#[]⟩,1,0⟩ .nil))).app (.one ⟨25,25,⟨#[97]⟩,0,0⟩ .nil)))))))
def isOk(r:Option (Rs Fo)):Option Fo:=match r with|some (.ok (f,_))=>some f|_=>none
theorem Pg:∃s',Ends awS (.ok (awT,s')):=by
 have h:(isOk (P 40 (.pg .nil) ⟨gU awS,0⟩))=some awT:=by kernel_rfl
 cases e:P 40 (.pg .nil) ⟨gU awS,0⟩ with
 | none=>rw[e] at h;cases h
 | some r=>
  rw[e] at h
  cases r with
  | error _=>cases h
  | ok p=>
   obtain⟨f,s'⟩:=p
   cases h
   exact⟨s',40,e⟩
def uV(bk:List ByteArray):List (Array Value):=(List.range bk.length).map λj=>#[.int .i64 ((bk.length-1-j:Nat):Int),Value.string (bk.getD (bk.length-1-j) ⟨#[]⟩)]
theorem qF(bk:List ByteArray):(uV bk).length=bk.length:=by simp[uV]
theorem xQ(bk:List ByteArray)(j:Nat)(hj:j<(uV bk).length):(uV bk)[j] = #[.int .i64 ((bk.length-1-j:Nat):Int),Value.string (bk.getD (bk.length-1-j) ⟨#[]⟩)]:=by simp[uV]
theorem GJ{W:World}{m:Nat}{v:Value}{bk:List ByteArray}(h:W.ownsRow m 9 1 v bk.length (bk.map Value.string)){i:Nat}(hi:i<bk.length):∃g c,v=.slice (some ⟨g,0,none⟩) bk.length c/\bk.length<=c/\W.cell? ⟨g,i,none⟩=some (Value.string (bk.getD i ⟨#[]⟩)):=by
 rcases h.2 with⟨_,e0⟩|⟨g,c,cur,rfl,h2,h3,h4,h5,h6,h7⟩
 ·omega
 ·refine⟨g,c,rfl,h4,?_⟩
  have e1:(bk.map Value.string)[i]? = some (Value.string (bk.getD i ⟨#[]⟩)):=by
   rw[List.getElem?_map,List.getD_eq_getElem?_getD,List.getElem?_eq_getElem hi];rfl
  rw[cell_of_row _ g _ _ _ _ h3,<- e1,<- h7,List.getElem?_take,if_pos (by omega),Array.getElem?_toList]
theorem Pf(o:Option Addr)(l c:Nat)(w:World):Calls prog 60 #[.slice o l c] w λe w'=>e=.returned (.func (.func 88) #[] #[.pointer (some ⟨w.heap.size,0,none⟩)])/\w'=w.alloc (.cells #[.slice o l c] 86):=by
 go_enter func60,ntmps60
 go_wp2
 go_ret
 exact⟨rfl,rfl⟩
theorem Mi:∀args w,(callFunc 88 args).run prog w=.ok (.enter 88 args) w:=enters_of func88 (by kernel_rfl) rfl
theorem FV(sb m:Nat)(v:Value)(bk:List ByteArray)(hl:bk.length<=2000000):sW 88 #[.pointer (some ⟨sb,0,none⟩)] (uV bk) (λW=>W.cell? ⟨sb,0,none⟩=some v/\W.ownsRow m 9 1 v bk.length (bk.map Value.string)):=by
 intro n l J X hn hL hB hY D0 W h0
 show CallsIn Fence.wide n prog 88 #[.func (.yield l) #[] #[],.pointer (some ⟨sb,0,none⟩)] W λe W'=>(∃v,e=.returned v)/\((∃D',J (uV bk).length D' W')\/X W')
 obtain⟨⟨g0,g1⟩,-⟩:=hL 0 D0 W h0
 obtain⟨o,cap,rfl⟩:=aI g1
 clear g1
 have HL:=hid hL
 have HY:=hid hY
 have H0:=hid h0
 have e0:aY.wrap ((bk.length:Int)-1)=(bk.length:Int)-1:=by rw[ay];omega
 refine callsIn_of_wp func88 rfl trivial ?_ rfl
 simp only[ntmps88,List.size_toArray,List.length_cons,List.length_nil,Nat.reduceAdd,Nat.reduceSub,Array.replicate_succ,Array.replicate_zero,List.push_toArray,List.append_toArray,List.nil_append,List.cons_append]
 clear hY hL hB h0
 refine wpIn_wide.2 ?_
 go_upto_region 1 with fail
 go_loopw [3] (λi' wr=>∃ (k j:Nat) (D:Nat->Prop),k+j=bk.length/\i'=.int .i64 ((k:Int)-1)/\J j D wr) (λi' _=>((intOf i')+1).toNat)
 case atStart=>exact⟨bk.length,0,D0,rfl,rfl,H0.out⟩
 case round=>
  obtain⟨k,j,D,hk,rfl,hJ⟩:=hrel
  clear H0 g0
  obtain⟨gr,gw⟩:=(HL.out j D wr hJ).1
  cases k with
  | zero=>
   have b0:¬ ((0:Nat):Int)-1≥0:=by omega
   have hj:j=bk.length:=by omega
   subst hj
   have HJ:=hid hJ
   clear hJ hk gr gw e0
   go_wp2
   go_end0
   exact⟨⟨_,rfl⟩,.inl ⟨D,by rw[qF];exact HJ.out⟩⟩
  | succ i=>
   have ei:((i+1:Nat):Int)-1=(i:Nat):=by omega
   rw[ei]
   have hi:i<bk.length:=by omega
   have hj:j<(uV bk).length:=by rw[qF];omega
   obtain⟨g,c,eo,hc,hcell⟩:=GJ gw hi
   simp only[Value.slice.injEq,true_and] at eo
   obtain⟨rfl,rfl⟩:=eo
   have yy:=HY.out j hj D _ hJ
   rw[xQ,show bk.length-1-j=i by omega] at yy
   generalize bk.getD i ⟨#[]⟩=b at *
   have y2:YieldAt Fence.wide (n-1) prog l #[.int .i64 (i:Nat),Value.string b] wr λe W'=>(e=.returned (.bool true)/\(∃D',J (j+1) D' W')/\(∀k,k<wr.heap.size->¬D k->W'.heap[k]? = wr.heap[k]?))\/(e=.returned (.bool false)/\X W'):=yy
   obtain⟨fn',tmps,assign,body,hy,hR⟩:=y2
   have b0:((i:Nat):Int)≥0:=by omega
   have e1:aY.wrap ((i:Int)-1)=(i:Int)-1:=by rw[ay];omega
   have i1:0<=(i:Int)/\(i:Int)<bk.length:=by omega
   have HK:=hid hk
   clear yy hJ hk gw e0
   go_upto_region 3 with fail
   refine(wpIn_wide (n:=n)).1 ?_
   gi_wp2
   refine hR.mono ?_
   rintro e W3 (⟨rfl,hK3,-⟩|⟨rfl,JQ⟩)
   ·have K3:=hid hK3
    clear hK3 hy hR
    gi_wp2
    go_wp2
    go_roundw
    case rel=>
     obtain⟨D',hD'⟩:=K3.out
     exact⟨i,j+1,D',by have:=HK.out;omega,rfl,hD'⟩
    case measure=>simp[intOf]
   ·clear hy hR
    gi_wp2
    go_wp2
    refine bodyPost_ret (results_none rfl _ _ _) rfl ?_
    exact⟨⟨_,rfl⟩,.inr JQ⟩
structure Rul where
 sort:Int
 text:Int
 least:Int
 most:Int
def l8(k:Int):Rul:=
 if k=1 then ⟨1,0,0,9223372036854775807⟩ else
 if k=2 then ⟨2,1,0,0⟩ else
 if k=3 then ⟨2,1,1,9223372036854775807⟩ else
 if k=4 then ⟨3,1,0,0⟩ else
 if k=5 then ⟨4,0,0,9223372036854775807⟩ else
 if k=6 then ⟨5,1,1,1⟩ else
 if k=7 then ⟨5,1,1,1⟩ else
 if k=8 then ⟨5,0,3,3⟩ else
 if k=9 then ⟨5,0,2,3⟩ else
 if k=10 then ⟨5,2,2,2⟩ else
 if k=11 then ⟨5,1,3,4⟩ else
 if k=12 then ⟨6,1,0,0⟩ else
 if k=13 then ⟨5,2,0,0⟩ else
 if k=14 then ⟨5,2,0,0⟩ else
 if k=15 then ⟨5,0,0,1⟩ else
 if k=16 then ⟨5,0,1,1⟩ else
 if k=17 then ⟨5,0,1,1⟩ else
 if k=18 then ⟨7,0,2,2⟩ else
 if k=19 then ⟨7,0,2,2⟩ else
 if k=20 then ⟨7,0,1,1⟩ else
 if k=21 then ⟨7,3,2,2⟩ else
 if k=22 then ⟨7,4,1,1⟩ else
 if k=23 then ⟨7,1,0,9223372036854775807⟩ else
 if k=24 then ⟨7,0,2,2⟩ else
 if k=25 then ⟨7,1,0,0⟩ else
 if k=26 then ⟨7,0,0,0⟩ else
 if k=27 then ⟨7,0,0,0⟩ else
 if k=28 then ⟨7,5,0,0⟩ else
 if k=29 then ⟨7,0,0,0⟩ else
 if k=30 then ⟨7,0,0,0⟩ else
 if k=31 then ⟨7,0,0,0⟩ else
 ⟨0,0,0,0⟩
def Kj(r:Rul):Value:=.agg #[.int .i64 r.sort,.int .i64 r.text,.int .i64 r.least,.int .i64 r.most]
theorem ruT:(prog.underlying 123).map (λd=>match d with | .struct _ | .array _ _=>true|_=>false)=some true:=by kernel_rfl
theorem aAG:(prog.info? 123).map (·.size)=some 4:=by kernel_rfl
theorem Kk{fn:Func}{p:Tmp}(h:fn.results = #[.cell p 123])(tmps:Array Value)(w:World)(gb:Nat)(v0 v1 v2 v3:Value)(fr:Nat × Nat)(hp:tmps.getD p undef=.pointer (some ⟨gb,0,none⟩))(hg:w.heap[gb]? = some (.cells #[v0,v1,v2,v3] 123 fr)):(results fn tmps).run prog w=.ok (.agg #[v0,v1,v2,v3]) w:=by
 have ht:=ruT
 cases hu:prog.underlying 123 with
 | none=>rw[hu] at ht;cases ht
 | some d=>
  rw[hu] at ht
  simp only[Option.map_some,Option.some.injEq] at ht
  refine results_cell_row h tmps w gb _ _ fr d hp hg hu ?_ (by rw[aAG];rfl)
  cases d <;> first|rfl|exact ht
theorem rM(k:Int)(w:World):Calls prog 84 #[.int .i64 k] w λe w'=>e=.returned (Kj (l8 k))/\Below w.heap.size w w':=by
 by_cases h:1<=k/\k<=31
 ·have:k=1\/k=2\/k=3\/k=4\/k=5\/k=6\/k=7\/k=8\/k=9\/k=10\/k=11\/k=12\/k=13\/k=14\/k=15\/k=16\/k=17\/k=18\/k=19\/k=20\/k=21\/k=22\/k=23\/k=24\/k=25\/k=26\/k=27\/k=28\/k=29\/k=30\/k=31:=by omega
  rcases this with rfl|rfl|rfl|rfl|rfl|rfl|rfl|rfl|rfl|rfl|rfl|rfl|rfl|rfl|rfl|rfl|rfl|rfl|rfl|rfl|rfl|rfl|rfl|rfl|rfl|rfl|rfl|rfl|rfl|rfl|rfl
  all_goals
   go_enter func84,ntmps84
   go_wp2
   refine bodyPost_ret (Kk rfl _ _ w.heap.size _ _ _ _ (0,0) rfl (bO w _)) rfl ?_
   exact⟨rfl,(aH _ w).alloc (aL _) _⟩
 ·have hn:¬k=1/\¬k=2/\¬k=3/\¬k=4/\¬k=5/\¬k=6/\¬k=7/\¬k=8/\¬k=9/\¬k=10/\¬k=11/\¬k=12/\¬k=13/\¬k=14/\¬k=15/\¬k=16/\¬k=17/\¬k=18/\¬k=19/\¬k=20/\¬k=21/\¬k=22/\¬k=23/\¬k=24/\¬k=25/\¬k=26/\¬k=27/\¬k=28/\¬k=29/\¬k=30/\¬k=31:=by omega
  obtain⟨n1,n2,n3,n4,n5,n6,n7,n8,n9,n10,n11,n12,n13,n14,n15,n16,n17,n18,n19,n20,n21,n22,n23,n24,n25,n26,n27,n28,n29,n30,n31⟩:=hn
  have hr:l8 k=⟨0,0,0,0⟩:=by simp only[l8,if_neg n1,if_neg n2,if_neg n3,if_neg n4,if_neg n5,if_neg n6,if_neg n7,if_neg n8,if_neg n9,if_neg n10,if_neg n11,if_neg n12,if_neg n13,if_neg n14,if_neg n15,if_neg n16,if_neg n17,if_neg n18,if_neg n19,if_neg n20,if_neg n21,if_neg n22,if_neg n23,if_neg n24,if_neg n25,if_neg n26,if_neg n27,if_neg n28,if_neg n29,if_neg n30,if_neg n31]
  rw[hr]
  clear hr h
  go_enter func84,ntmps84
  go_wp2
  refine bodyPost_ret (Kk rfl _ _ w.heap.size _ _ _ _ (0,0) rfl (bO w _)) rfl ?_
  exact⟨rfl,(aH _ w).alloc (aL _) _⟩
def dJ(k a c:Int)(t:ByteArray)(i b:Int):Value:=.agg #[.int .i64 k,.int .i64 a,.int .i64 c,.string t,.int .i64 i,.int .u64 b]
def GV(k i b:Int):Bool:=if k=26 then decide (0<=i/\b=0) else if k=27 then decide (i=0/\(b<=9218868437227405312\/b=9221120237041090560)) else decide (i=0/\b=0)
theorem Rz(k a c:Int)(t:ByteArray)(i b:Int)(w:World):Calls prog 86 #[dJ k a c t i b] w λe w'=>e=.returned (.bool (GV k i b))/\Below w.heap.size w w':=by
 obtain⟨q,hq⟩:∃q,GV k i b=q:=⟨_,rfl⟩
 rw[hq]
 unfold GV at hq
 unfold dJ
 by_cases h1:k=26
 ·rw[if_pos h1] at hq
  subst h1
  by_cases h2:i≥0
  ·by_cases h3:b=0
   ·have e:q=true:=by rw[<- hq];simp;omega
    subst e
    clear hq
    (go_enter func86,ntmps86;go_wp2;go_ret;exact⟨rfl,(aH _ w).alloc (aL _) _⟩)
   ·have e:q=false:=by rw[<- hq];simp;omega
    have g3:(b==0)=false:=by simpa using h3
    subst e
    clear hq
    (go_enter func86,ntmps86;go_wp2;go_ret;exact⟨rfl,(aH _ w).alloc (aL _) _⟩)
  ·have e:q=false:=by rw[<- hq];simp;omega
   subst e
   clear hq
   (go_enter func86,ntmps86;go_wp2;go_ret;exact⟨rfl,(aH _ w).alloc (aL _) _⟩)
 ·rw[if_neg h1] at hq
  by_cases h4:k=27
  ·rw[if_pos h4] at hq
   subst h4
   by_cases h2:i=0
   ·by_cases h3:b<=9218868437227405312
    ·have e:q=true:=by rw[<- hq];simp;omega
     subst e
     clear hq
     (go_enter func86,ntmps86;go_wp2;go_ret;exact⟨rfl,(aH _ w).alloc (aL _) _⟩)
    ·by_cases h5:b=9221120237041090560
     ·have e:q=true:=by rw[<- hq];simp;omega
      subst e
      clear hq
      (go_enter func86,ntmps86;go_wp2;go_ret;exact⟨rfl,(aH _ w).alloc (aL _) _⟩)
     ·have e:q=false:=by rw[<- hq];simp;omega
      have g5:(b==9221120237041090560)=false:=by simpa using h5
      subst e
      clear hq
      (go_enter func86,ntmps86;go_wp2;go_ret;exact⟨rfl,(aH _ w).alloc (aL _) _⟩)
   ·have e:q=false:=by rw[<- hq];simp;omega
    subst e
    clear hq
    (go_enter func86,ntmps86;go_wp2;go_ret;exact⟨rfl,(aH _ w).alloc (aL _) _⟩)
  ·rw[if_neg h4] at hq
   by_cases h2:i=0
   ·by_cases h3:b=0
    ·have e:q=true:=by rw[<- hq];simp;omega
     subst e
     clear hq
     (go_enter func86,ntmps86;go_wp2;go_ret;exact⟨rfl,(aH _ w).alloc (aL _) _⟩)
    ·have e:q=false:=by rw[<- hq];simp;omega
     have g3:(b==0)=false:=by simpa using h3
     subst e
     clear hq
     (go_enter func86,ntmps86;go_wp2;go_ret;exact⟨rfl,(aH _ w).alloc (aL _) _⟩)
   ·have e:q=false:=by rw[<- hq];simp;omega
    subst e
    clear hq
    (go_enter func86,ntmps86;go_wp2;go_ret;exact⟨rfl,(aH _ w).alloc (aL _) _⟩)
def Bq(d c k:Int):Int:=if d=1 then 2 else if d=3 then (if k=c-1 then 4 else 3) else if d=5 then 5 else if d=9 then (if k>0 then 4 else 7) else if d=10 then (if k=c-1 then 4 else 7) else if d=11 then (if k=c-1 then 4 else if k=0 then (if c=4 then 6 else 7) else 7) else 7
theorem RU(d a c:Int)(t:ByteArray)(i b k:Int)(hc:0<=c/\c<=1000000)(w:World):Calls prog 87 #[dJ d a c t i b,.int .i64 k] w λe w'=>e=.returned (.int .i64 (Bq d c k))/\Below w.heap.size w w':=by
 obtain⟨q,hq⟩:∃q,q=Bq d c k:=⟨_,rfl⟩
 rw[<- hq]
 unfold Bq at hq
 unfold dJ
 have e1:aY.wrap (c-1)=c-1:=by rw[ay];omega
 by_cases n1:d=1
 ·rw[if_pos n1] at hq
  subst n1
  subst hq
  (go_enter func87,ntmps87;go_wp2;go_ret;exact⟨rfl,(aH _ w).alloc (aL _) _⟩)
 rw[if_neg n1] at hq
 by_cases n3:d=3
 ·rw[if_pos n3] at hq
  subst n3
  by_cases h:k=c-1
  ·rw[if_pos h] at hq
   have g:(k==c-1)=true:=by simpa using h
   subst hq
   (go_enter func87,ntmps87;go_wp2;go_ret;exact⟨rfl,(aH _ w).alloc (aL _) _⟩)
  ·rw[if_neg h] at hq
   have g:(k==c-1)=false:=by simpa using h
   subst hq
   (go_enter func87,ntmps87;go_wp2;go_ret;exact⟨rfl,(aH _ w).alloc (aL _) _⟩)
 rw[if_neg n3] at hq
 by_cases n5:d=5
 ·rw[if_pos n5] at hq
  subst n5
  subst hq
  (go_enter func87,ntmps87;go_wp2;go_ret;exact⟨rfl,(aH _ w).alloc (aL _) _⟩)
 rw[if_neg n5] at hq
 by_cases n9:d=9
 ·rw[if_pos n9] at hq
  subst n9
  by_cases h:k>0
  ·rw[if_pos h] at hq
   skip
   subst hq
   (go_enter func87,ntmps87;go_wp2;go_ret;exact⟨rfl,(aH _ w).alloc (aL _) _⟩)
  ·rw[if_neg h] at hq
   skip
   subst hq
   (go_enter func87,ntmps87;go_wp2;go_ret;exact⟨rfl,(aH _ w).alloc (aL _) _⟩)
 rw[if_neg n9] at hq
 by_cases n10:d=10
 ·rw[if_pos n10] at hq
  subst n10
  by_cases h:k=c-1
  ·rw[if_pos h] at hq
   have g:(k==c-1)=true:=by simpa using h
   subst hq
   (go_enter func87,ntmps87;go_wp2;go_ret;exact⟨rfl,(aH _ w).alloc (aL _) _⟩)
  ·rw[if_neg h] at hq
   have g:(k==c-1)=false:=by simpa using h
   subst hq
   (go_enter func87,ntmps87;go_wp2;go_ret;exact⟨rfl,(aH _ w).alloc (aL _) _⟩)
 rw[if_neg n10] at hq
 by_cases n11:d=11
 ·rw[if_pos n11] at hq
  subst n11
  by_cases h:k=c-1
  ·rw[if_pos h] at hq
   have g:(k==c-1)=true:=by simpa using h
   subst hq
   (go_enter func87,ntmps87;go_wp2;go_ret;exact⟨rfl,(aH _ w).alloc (aL _) _⟩)
  ·rw[if_neg h] at hq
   have g:(k==c-1)=false:=by simpa using h
   by_cases h0:k=0
   ·rw[if_pos h0] at hq
    have g0:(k==0)=true:=by simpa using h0
    by_cases h4:c=4
    ·rw[if_pos h4] at hq
     have g4:(c==4)=true:=by simpa using h4
     subst hq
     (go_enter func87,ntmps87;go_wp2;go_ret;exact⟨rfl,(aH _ w).alloc (aL _) _⟩)
    ·rw[if_neg h4] at hq
     have g4:(c==4)=false:=by simpa using h4
     subst hq
     (go_enter func87,ntmps87;go_wp2;go_ret;exact⟨rfl,(aH _ w).alloc (aL _) _⟩)
   ·rw[if_neg h0] at hq
    have g0:(k==0)=false:=by simpa using h0
    subst hq
    (go_enter func87,ntmps87;go_wp2;go_ret;exact⟨rfl,(aH _ w).alloc (aL _) _⟩)
 rw[if_neg n11] at hq
 subst hq
 (go_enter func87,ntmps87;go_wp2;go_ret;exact⟨rfl,(aH _ w).alloc (aL _) _⟩)
structure BW (w:World) where
 w':World
 h:Below w.heap.size w w'
theorem wp_region_quiet_below{id:Nat}{Q:Exit->Act->World->Prop}{a:Act}{w:World}{l:List Oper}(hm:prog.follows .mixedOrders=true)(hB:Region.lexB .any l.toArray=true)
  (h:wpQuiet prog l.toArray (λw'=>∃p:BW w,w'=p.w') (λa'=>∀w',(∃p:BW w,w'=p.w')->Q .normal a' w') l a):(Code.region id l.toArray true).wp prog Q a w:=
 wp_region_quiet (C:=λw'=>∃p:BW w,w'=p.w') hm hB ⟨⟨w.drew,(aH _ w).drew⟩,rfl⟩ (by simpa using h)
theorem BW.calls{P:Program}{f:FuncId}{args:Array Value}{w:World}{p:BW w}{v:Value}(h:Calls P f args p.w' λe w'=>e=.returned v/\Below p.w'.heap.size p.w' w'):Calls P f args p.w' λe w''=>e=.returned v/\∃p':BW w,w''=p'.w':=
 h.mono λ_ w'' ⟨he,hB⟩=>⟨he,⟨w'',p.h.trans (hB.mono p.h.size)⟩,rfl⟩
theorem BW.cell{w:World}{a:Addr}{v:Value}(h:w.cell? a=some v)(p:BW w):p.w'.cell? a=some v:=It.eZ p.h h
theorem vg(v0 v1 v2 v3:Value)(w:World):(Instr.field 123 (.agg #[v0,v1,v2,v3]) 0).run prog w=.ok v0 w:=by kernel_rfl
def Oi(d c k m:Int):Bool:=decide ((d=9/\k=2/\m=9)\/(l8 m).sort=Bq d c k)
theorem TM(a b:Int):decide (a=b)=(a==b):=by by_cases h:a=b <;> simp[h]
theorem VR(d a c:Int)(t:ByteArray)(i b k m:Int)(hc:0<=c/\c<=1000000)(w:World):Calls prog 59 #[dJ d a c t i b,.int .i64 k,.int .i64 m] w λe w'=>e=.returned (.bool (Oi d c k m))/\Below w.heap.size w w':=by
 have cr:=rM m
 have cs:=λw=>RU d a c t i b k hc w
 obtain⟨q,hq⟩:∃q,Oi d c k m=q:=⟨_,rfl⟩
 rw[hq]
 unfold Oi at hq
 unfold dJ at cs ⊢
 generalize l8 m=r at *
 generalize Bq d c k=z at *
 unfold Kj at cr
 by_cases h:d=9/\k=2/\m=9
 ·obtain⟨rfl,rfl,rfl⟩:=h
  have e:q=true:=by rw[<- hq];simp
  subst e
  clear hq
  go_enter func59,ntmps59
  go_wp2
  go_ret
  exact⟨rfl,(aH _ w).alloc (aL _) _⟩
 ·have e:q=(r.sort==z):=by rw[<- hq,<- TM];simp[h]
  subst e
  clear hq
  have bw:Below w.heap.size w (w.alloc (.cells #[.int .i64 d,.int .i64 a,.int .i64 c,.string t,.int .i64 i,.int .u64 b] 31)):=(aH _ w).alloc (aL _) _
  have hn:=bO w (.cells #[.int .i64 d,.int .i64 a,.int .i64 c,.string t,.int .i64 i,.int .u64 b] 31)
  have hcut:(d==9)=false\/(d==9)=true/\(k==2)=false\/(d==9)=true/\(k==2)=true/\(m==9)=false:=by
   by_cases h1:d=9
   ·by_cases h2:k=2
    ·exact .inr (.inr ⟨by simpa using h1,by simpa using h2,by simpa using λe=>h ⟨h1,h2,e⟩⟩)
    ·exact .inr (.inl ⟨by simpa using h1,by simpa using h2⟩)
   ·exact .inl (by simpa using h1)
  clear h
  rcases hcut with h1|⟨h1,h2⟩|⟨h1,h2,h3⟩
  all_goals
   go_enter func59,ntmps59
   go_upto_region 3 with fail
   generalize World.alloc w _=W at *
   have inst:Nonempty (BW W):=⟨⟨_,aH _ _⟩⟩
   have c0:=BW.cell (show W.cell? ⟨w.heap.size,0,none⟩=some (.int .i64 d) from aA hn 0)
   have c1:=BW.cell (show W.cell? ⟨w.heap.size,1,none⟩=some (.int .i64 a) from aA hn 1)
   have c2:=BW.cell (show W.cell? ⟨w.heap.size,2,none⟩=some (.int .i64 c) from aA hn 2)
   have c3:=BW.cell (show W.cell? ⟨w.heap.size,3,none⟩=some (.string t) from aA hn 3)
   have c4:=BW.cell (show W.cell? ⟨w.heap.size,4,none⟩=some (.int .i64 i) from aA hn 4)
   have c5:=BW.cell (show W.cell? ⟨w.heap.size,5,none⟩=some (.int .u64 b) from aA hn 5)
   have ca:=λ(p:BW W)=>BW.calls (p:=p) (cr p.w')
   have cb:=λ(p:BW W)=>BW.calls (p:=p) (cs p.w')
   have QX:=vg
   clear cr cs hn
   refine wp_region_quiet_below (by kernel_rfl) (by kernel_rfl) ?_
   repeat (go_big_quiet_step (first|(go_at_call 84;exact ca _)|(go_at_call 87;exact cb _)))
   refine wpQuiet_nil ?_
   intro _ hw'
   obtain⟨pw,hw''⟩:=hw'
   subst hw''
   go_wp2
   go_ret
   exact⟨rfl,bw.trans (pw.h.mono bw.size)⟩
end Go.Proofs.YtgchnkgolclmgaaGreatDoor.W.Tr
