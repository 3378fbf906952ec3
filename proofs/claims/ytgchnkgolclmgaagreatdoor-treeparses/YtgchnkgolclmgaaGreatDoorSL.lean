import Derived.Test.YtgchnkgolclmgaaGreatDoorJG
import Derived.Test.YtgchnkgolclmgaaGreatDoorSG
import Derived.Test.YtgchnkgolclmgaaGreatDoorJX
import Derived.Test.YtgchnkgolclmgaaGreatDoorKA
import Derived.Test.YtgchnkgolclmgaaGreatDoorKF
import Derived.Deep.RegionHeld3
open List renaming replicate → ay, mem_cons_self → gI, length_append → gL, getElem?_eq_some_iff → lH
open Array renaming getElem?_eq_some_iff → dQ
open Nat renaming le_refl → aL, le_trans → eU
open Go.World renaming alloc → bO, alloc_heap_new → bY, size_alloc → dR
open Go.RowKit.Below renaming refl → aH, heap_setCell → dI
open Go.IntKind renaming wrap_i64 → gy
open Go.Lib renaming wp_append_run → jl
open And renaming intro → aY
open Go.Proofs.Tryz
open List renaming getElem_toArray → aW, getElem_cons_zero → aV, getElem_cons_succ → aU, setIfInBounds_toArray → aT, set_cons_zero → aS, set_cons_succ → aR
set_option maxRecDepth 1000000
set_option maxHeartbeats 8000000
namespace Go.Proofs.YtgchnkgolclmgaaGreatDoor.W.Tr
open Go.ChangeShapes Go.WideShapes Go.RowKit Go.Shelf
set_option linter.unusedVariables false
set_option linter.unusedSimpArgs false
theorem Aw(W:World)(ty:TypeId)(v:Value)(n:Nat)(xs:List Value){B0 B1:Nat}(hown:W.ownsRow B0 31 6 v n xs)(hB:B0<=W.heap.size)(L:List (Nd × Nat))(r:Value)(hr:W.ownsRow B1 31 6 r L.length (eH L))(hL:L≠[])(hn:n+L.length<=4000000):∃v' w',(Builtin.append_ #[22,22] ty #[v,r]).run prog W=.ok v' w'/\w'.ownsRow B0 31 6 v' (n+L.length) (xs++eH L)/\W.grownBy w' v.ownBlock/\(v'.ownBlock=v.ownBlock\/v'.ownBlock=some W.heap.size):=by
 obtain⟨i0,hi,hz0,hz1,hz2⟩:=info_parts Ew
 have hl:=hr.1
 rcases hr.2 with⟨_,h0⟩|⟨g,cap,cur,rfl,_,q3,q4,q5,q6,q7⟩
 ·exact absurd (List.eq_nil_of_length_eq_zero h0) hL
 ·obtain⟨v',w',h1,h2,h3,_,h5⟩:=run_append_own_at (P:=prog) W B0 22 ty 31 i0 _ 6 56 Kq hi hz0 hz1 hz2 rfl (by omega) v n xs hown ⟨g,0,none⟩ L.length cap (eH L) hl (by
   intro j u hj
   have e1:((⟨g,0,none⟩:Addr).add j)=⟨g,j,none⟩:=by simp[Addr.add];intro e;exact e.symm
   have hj2:j<L.length*6:=by
    have:=(lH.1 hj).1
    omega
   rw[e1,cell_of_row _ g j _ _ _ q3,<- hj,<- q7,List.getElem?_take,if_pos hj2,Array.getElem?_toList]) (by
   intro u hu
   simp only[eH,List.mem_flatMap] at hu
   obtain⟨p,_,hu⟩:=hu
   simp[qM] at hu
   rcases hu with rfl|rfl|rfl|rfl|rfl|rfl <;> rfl) (by unfold maxLen;omega) (by omega) hB
  exact⟨v',w',h1,h2,h3,h5⟩
theorem cZ.split{W:World}:∀ (pre:Fo) {rest:Fo} {S:Nat->Prop} {bs:List Nat},cZ W S bs (pre.app rest)->∃U2 WW,bs=U2++WW/\U2.length=pre.len/\cZ W S WW rest
 | .nil,rest,S,bs,h=>⟨[],bs,rfl,rfl,h⟩
 | .cons n ks r,rest,S,bs,h=>by
  obtain⟨b,bs',v,bk,h1,h2,h3,h4,h5,h6,h7⟩:=h
  obtain⟨U2,WW,e1,e2,e3⟩:=cZ.split r h7
  exact⟨b::U2,WW,by rw[h1,e1];rfl,by show U2.length+1=r.len+1;rw[e2],e3⟩
theorem cZ.kid{W:World}(pre:Fo){m:Nd}{k r:Fo}{S:Nat->Prop}{bs:List Nat}(h:cZ W S bs (pre.app (.cons m k r))):∃b,bs[pre.len]? = some b/\cZ W S [b] (Fo.one m k):=by
 obtain⟨U2,WW,e1,e2,e3⟩:=cZ.split pre h
 obtain⟨b,bs',v,bk,h1,h2,h3,h4,h5,h6,h7⟩:=e3
 refine⟨b,by rw[e1,h1,<- e2];simp,⟨b,[],v,bk,rfl,h2,h3,h4,h5,h6,rfl⟩⟩
theorem OU{w:World}{uo:Option Addr}{uc:Nat}{bk:List Nat}{gm k b:Nat}(h:w.ownsRow gm 40 1 (.slice uo bk.length uc) bk.length (bk.map ptr))(hk:bk[k]? = some b):∃g,uo=some ⟨g,0,none⟩/\w.cell? ⟨g,k,none⟩=some (ptr b):=by
 have hlt:=(lH.1 hk).1
 rcases h.2 with⟨_,h0⟩|⟨g,cap,cur,e,_,q3,q4,q5,q6,q7⟩
 ·omega
 ·have e1:uo=some ⟨g,0,none⟩:=by simp at e;exact e.1
  refine⟨g,e1,?_⟩
  have hj:(bk.map ptr)[k]? = some (ptr b):=by simp[hk]
  rw[cell_of_row _ g k _ _ _ q3,<- hj,<- q7,List.getElem?_take,if_pos (by omega),Array.getElem?_toList]
def XB(W:World)(L:List (Nd × Nat))(e:Ending)(w':World):Prop:=∃r,e=.returned r/\Below W.heap.size W w'/\w'.ownsRow W.heap.size 31 6 r L.length (eH L)
theorem Uu:∀ (N:Nat) (m:Nd) (ks:Fo),(dM (Fo.one m ks)).length<=N->N<=100000->∀ (W:World) (S:Nat->Prop) (b:Nat),cZ W S [b] (Fo.one m ks)->Calls prog 17 #[ptr b] W (XB W (dM (Fo.one m ks))):=by
 intro N
 induction N with
 | zero=>
  intro m ks hl
  exact absurd hl (by show ¬ (dM ks++[]).length+1<=0;omega)
 | succ N ih=>
  intro m ks hl hN W S b h
  obtain⟨b',bs',u,bk,e1,_,hb,hown,hub,MQ,hnil⟩:=h
  simp only[List.cons.injEq] at e1
  obtain⟨rfl,rfl⟩:=e1
  have hlen:=cZ.len MQ
  obtain⟨uo,uc,rfl⟩:=aI hown
  have lt:=(dQ.1 hb).1
  have hrl:(dM (Fo.one m ks)).length=(dM ks).length+1:=by show (dM ks++[]).length+1=_;simp
  have hbig:bk.length<=200000:=by
   have:∀f:Fo,f.len<=(dM f).length:=by
    intro f
    induction f with
    | nil=>exact aL _
    | cons n k r _ ih=>show r.len+1<=(dM k++dM r).length+1;rw[gL];omega
   have:=this ks
   omega
  have HIH:=hid ih
  have HH:=hid (aY hb (aY hown (aY MQ (aY hlen (aY hl (aY hN (aY hrl hbig)))))))
  have c0:W.cell? ⟨b,0,none⟩=some (.int .i64 m.kind):=aA hb 0
  have c1:W.cell? ⟨b,1,none⟩=some (.int .i64 m.a):=aA hb 1
  have c2:W.cell? ⟨b,2,none⟩=some (.int .i64 0):=aA hb 2
  have c3:W.cell? ⟨b,3,none⟩=some (.string m.text):=aA hb 3
  have c4:W.cell? ⟨b,4,none⟩=some (.int .i64 m.int):=aA hb 4
  have c5:W.cell? ⟨b,5,none⟩=some (.int .u64 m.bits):=aA hb 5
  clear ih hb hown hub MQ hnil hlen hl hN hrl hbig
  go_enter func17,ntmps17
  go_upto_region 2 with fail
  have hn0:=bY W (.cells #[.int .i64 m.kind,.int .i64 m.a,.int .i64 0,.string m.text,.int .i64 m.int,.int .u64 m.bits] 31)
  have bf:=(aH _ W).alloc (aL _) (.cells #[.int .i64 m.kind,.int .i64 m.a,.int .i64 0,.string m.text,.int .i64 m.int,.int .u64 m.bits] 31)
  obtain⟨nb,hnb⟩:∃nb,W.heap.size=nb:=⟨_,rfl⟩
  have gnb:W.heap.size<=nb:=by omega
  rw[hnb] at hn0
  rw[hnb]
  clear hnb c0 c1 c2 c3 c4 c5
  generalize bO W _=w1 at *
  have k6:w1.cell? ⟨b,6,none⟩=some (.slice uo bk.length uc):=aA ((bf.block b lt).trans HH.out.1) 6
  have z0:=aC hn0
  have n2:w1.cell? ⟨nb,2,none⟩=some (.int .i64 0):=aA hn0 2
  go_upto_region 3 with fail
  have hn1:=aM (c:=[.int .i64 m.kind,.int .i64 m.a,.int .i64 0,.string m.text,.int .i64 m.int,.int .u64 m.bits]) hn0 2 (.int .i64 (bk.length:Nat))
  replace bf:=bf.setCell (p:=⟨nb,2,none⟩) gnb (.int .i64 (bk.length:Nat))
  clear k6 z0 n2 hn0
  generalize World.setCell _ _ _=w2 at *
  have e0:w2.cell? ⟨nb,0,none⟩=some (.int .i64 m.kind):=aA hn1 0
  have e1:w2.cell? ⟨nb,1,none⟩=some (.int .i64 m.a):=aA hn1 1
  have e2:w2.cell? ⟨nb,2,none⟩=some (.int .i64 (bk.length:Nat)):=aA hn1 2
  have e3:w2.cell? ⟨nb,3,none⟩=some (.string m.text):=aA hn1 3
  have e4:w2.cell? ⟨nb,4,none⟩=some (.int .i64 m.int):=aA hn1 4
  have e5:w2.cell? ⟨nb,5,none⟩=some (.int .u64 m.bits):=aA hn1 5
  go_wp2_with fail
  clear e0 e1 e2 e3 e4 e5 hn1
  have HB:=hid (bf.alloc bf.size (.cells (qM (m,bk.length)) 31))
  have HO:Hid ((w2.alloc (.cells (qM (m,bk.length)) 31)).ownsRow W.heap.size 31 6 (.slice (some ⟨w2.heap.size,0,none⟩) 1 1) 1 (eH [(m,bk.length)])):=hid ⟨by simp[eH,qM],.inr ⟨w2.heap.size,1,_,rfl,bf.size,bY w2 _,aL _,by unfold maxLen;omega,by simp[qM],by simp[eH,qM]⟩⟩
  clear bf gnb
  go_loopw [4,5] (λv i wr=>∃ (pre rest:Fo) (k:Nat),ks=pre.app rest/\i=.int .i64 k/\k=pre.len/\Below W.heap.size W wr/\wr.ownsRow W.heap.size 31 6 v ((m,bk.length)::dM pre).length (eH ((m,bk.length)::dM pre))) (λ_ i _=>bk.length-(intOf i).toNat)
  case atStart=>exact⟨.nil,ks,0,rfl,rfl,rfl,HB.out,HO.out⟩
  case round=>
   obtain⟨pre,rest,k,hks,rfl,hk,bf,ho⟩:=hrel
   clear HB HO
   have Xd:=hid hks
   have HKL:=hid hk
   have rE:=hid bf
   have hlk:ks.len=pre.len+rest.len:=by rw[hks,Fo.gq]
   have k6:wr.cell? ⟨b,6,none⟩=some (.slice uo bk.length uc):=aA ((bf.block b lt).trans HH.out.1) 6
   have hlk2:bk.length=k+rest.len:=by have:=HH.out.2.2.2.1;omega
   have HLK:=hid hlk2
   obtain⟨vo,vc,rfl⟩:=aI ho
   have HO:=hid ho
   clear hks hk bf ho hlk
   cases rest with
   | nil=>
    have c0:¬ (k:Int)<(bk.length:Int):=by have:=HLK.out;simp only[Fo.len] at this;omega
    clear hlk2
    go_wp2_with fail
    go_ret
    have hf:dM (Fo.one m ks)=(m,bk.length)::dM pre:=by
     have e1:dM (Fo.one m ks)=(m,ks.len)::(dM ks++[]):=rfl
     have e2:ks=pre:=by
      rw[Xd.out]
      have:∀f:Fo,f.app .nil=f:=by
       intro f
       induction f with
       | nil=>rfl
       | cons n k r _ ih=>show Fo.cons n k (r.app .nil)=_;rw[ih]
      exact this pre
     rw[e1,List.append_nil,<- HH.out.2.2.2.1,e2]
    rw[hf]
    exact⟨_,rfl,rE.out,HO.out⟩
   | cons m1 k1 r1=>
    have c0:(k:Int)<(bk.length:Int):=by have:=HLK.out;simp only[Fo.len] at this;omega
    have c1:(0:Int)<=(k:Int):=Int.natCast_nonneg _
    have v1:IntKind.i64.wrap ((k:Int)+1)=((k+1:Nat):Int):=by have:=HH.out.2.2.2.2.2.2.2;rw[gy];omega
    have v2:wrap64 ((k:Int)+1)=((k+1:Nat):Int):=by have:=HH.out.2.2.2.2.2.2.2;unfold wrap64;omega
    have hkd:=HH.out.2.2.1
    rw[Xd.out] at hkd
    obtain⟨b1,hb1,hr1⟩:=cZ.kid pre hkd
    rw[<- HKL.out] at hb1
    obtain⟨g,rfl,hg⟩:=OU HH.out.2.1 hb1
    have hg2:wr.cell? ⟨g,k,none⟩=some (ptr b1):=(rE.out.cell (World.block_lt_of_cell? W _ hg)).trans hg
    have hfk:(dM ks).length=(dM pre).length+((dM (Fo.one m1 k1)).length+(dM r1).length):=by
     rw[Xd.out,oQ,gL]
     show _+((m1,k1.len)::(dM k1++dM r1)).length=_+(((m1,k1.len)::(dM k1++[])).length+_)
     simp
     omega
    have cr:=HIH.out m1 k1 (by have:=HH.out.2.2.2.2.1;have:=HH.out.2.2.2.2.2.2.1;omega) (by have:=HH.out.2.2.2.2.2.1;omega) wr _ b1 ((hr1.lt).on (λj e hj=>rE.out.block j e.2))
    have hpos:0<(dM (Fo.one m1 k1)).length:=by show 0<(dM k1++[]).length+1;omega
    have hsz:((m,bk.length)::dM pre).length+(dM (Fo.one m1 k1)).length<=4000000:=by
     have:=HH.out.2.2.2.2.1
     have:=HH.out.2.2.2.2.2.2.1
     have:=HH.out.2.2.2.2.2.1
     simp only[List.length_cons]
     omega
    have HFK:=hid (aY hpos hsz)
    have HCR:=hid cr
    clear hkd hb1 hr1 hg hfk cr hpos hsz hlk2
    go_upto_region 6 with(first|(go_at_call 17;(with_reducible refine(HCR.out).mono ?_);rintro x wq ⟨r,rfl,XZ,hoq⟩;(obtain⟨ro,rc,rfl⟩:=aI hoq);obtain⟨v',w',hrun,ho2,hgr,hk2⟩:=Aw wq 22 _ _ _ (bD HO.out (λj e=>XZ.block j (HO.out.lt j e).2)) (eU rE.out.size XZ.size) (dM (Fo.one m1 k1)) _ hoq (λe=>by have:=HFK.out.1;rw[e] at this;exact absurd this (by simp)) HFK.out.2;(simp only[List.length_cons] at hrun))|((with_reducible refine jl _ (.tmp 27) (.tmp 35) 22 22 (by with_reducible rfl) ?vs ?vx ?hs ?hx ?vv ?ww ?hr ?hk);(case hs=>rfl);(case hx=>rfl);(case hr=>exact hrun)))
    go_wp2_with fail
    go_roundw
    case rel=>
     refine⟨pre.app (Fo.one m1 k1),r1,k+1,?_,rfl,?_,?_,?_⟩
     ·rw[Xd.out]
      have:∀f:Fo,f.app (.cons m1 k1 r1)=(f.app (Fo.one m1 k1)).app r1:=by
       intro f
       induction f with
       | nil=>rfl
       | cons n k r _ ih=>show Fo.cons n k (r.app _)=Fo.cons n k ((r.app _).app r1);rw[ih]
      exact this pre
     ·rw[p9,<- HKL.out]
     ·exact(rE.out.trans (XZ.mono rE.out.size)).grown hgr (eU rE.out.size XZ.size) (λj e=>(HO.out.lt j e).1)
     ·have hfl:(m,bk.length)::dM (pre.app (Fo.one m1 k1))=((m,bk.length)::dM pre)++dM (Fo.one m1 k1):=by rw[oQ];rfl
      rw[hfl,gL]
      have hrr:eH (((m,bk.length)::dM pre)++dM (Fo.one m1 k1))=eH ((m,bk.length)::dM pre)++eH (dM (Fo.one m1 k1)):=by unfold eH;rw[List.flatMap_append]
      rw[hrr]
      exact ho2
    case measure=>have:=HLK.out;simp only[Fo.len] at this;simp[intOf];omega
theorem Ce{fn:Func}{p q:Tmp}(h:fn.results = #[.tmp p,.cell q 25])(tmps:Array Value)(w:World)(b3:Nat)(v c a:Value)(fr':Nat × Nat)(hp:tmps.getD p undef=v)(hq:tmps.getD q undef=.pointer (some ⟨b3,0,none⟩))(hg3:w.heap[b3]? = some (.cells #[c,a] 25 fr')):(results fn tmps).run prog w=.ok (.tuple #[v,.agg #[c,a]]) w:=by
 obtain⟨d,hu,hd⟩:=X6
 have hl:=run_loadVar_row (P:=prog) w b3 25 25 #[c,a] fr' d hg3 hu (by cases d <;> first|rfl|exact hd) (by rw[PL];rfl)
 have hp':tmps[p]?.getD undef=v:=by simpa using hp
 have hq':tmps[q]?.getD undef=.pointer (some ⟨b3,0,none⟩):=by simpa using hq
 simp[results,h,hp',hq',asAddr,hl]
theorem GH:∀ (n:Nat) (l:Fo) (s:Cs) (fo:Fo) (s':Cs),P n (.pg l) s=some (.ok (fo,s'))->∃y,look s'=.ok y
 | 0,l,s,fo,s',h=>by cases h
 | n+1,l,s,fo,s',h=>by
  have h:(dW.bind λy=>if y.t.kind=7 then Pm.pure (Fo.one ⟨1,0,⟨#[]⟩,0,0⟩ l) else (P n (if aG y.t=fU then .gl else .fu)).bind λx=>P n (.pg (l.app x))) s=some (.ok (fo,s')):=h
  rcases bU h with⟨e,_,h1⟩|⟨y,hy,h1⟩
  ·cases h1
  ·split at h1
   ·have:=aQ h1
    cases this
    exact⟨y,hy⟩
   ·rcases aX h1 with⟨e,_,h2⟩|⟨f,s2,_,h2⟩
    ·cases h2
    ·exact GH n _ _ _ _ h2
theorem Mh{l:List UInt8}(hl:l.length<=65536){e:jv}{o:Option Fo}(h:aO (.pg .nil) (iJ ⟨T l 0,0⟩) (.error e) o):Ends l (.error e):=by
 obtain⟨n,r,h1,h2⟩:=h.now
 rw[<- K9 l hl] at h1
 match r,h1,h2 with
 | .error e',h1,h2=>
  have:Except.error e=Except.error e':=h2
  cases this
  exact⟨n,h1⟩
 | .ok (a,s'),h1,⟨h2,_⟩=>
  obtain⟨y,hy⟩:=GH _ _ _ _ _ h1
  rw[aj hy] at h2
  cases h2
theorem PU{l:List UInt8}(hl:l.length<=65536){s:Cs}{fo:Fo}(h:aO (.pg .nil) (iJ ⟨T l 0,0⟩) (.ok s) (some fo)):∃s',Ends l (.ok (fo,s')):=by
 obtain⟨n,r,h1,h2⟩:=h.now
 rw[<- K9 l hl] at h1
 match r,h1,h2 with
 | .error e',h1,h2=>cases (show Except.ok s=Except.error e' from h2)
 | .ok (a,s'),h1,⟨h2,h3⟩=>
  have:=h3 ⟨s,rfl⟩
  cases this
  exact⟨s',n,h1⟩
theorem Vr{s:Cs}{y z:Yd}(hs:look s=.ok y)(hw:bR fU (.ok s)=true)(hz:∀t,mH (bJ (.ok s))=some t->t=z)(ht:∀x,bP (bJ (.ok s))=.ok x->(⟨2,z.a,z.t.text,0,0⟩:Nd)=jr 2 z):aO .gl (.ok s) (aN bV (bP (bJ (.ok s)))) (some (Fo.one ⟨2,z.a,z.t.text,0,0⟩ .nil)):=by
 have hw2:=(gF hs hw).symm
 have hg:=Vs hs (st1:=bJ (.ok s)) hw2 rfl rfl (o:=some (Fo.one (jr 2 z) .nil)) (λt e1=>by rw[hz t e1])
 cases q:aN bV (bP (bJ (.ok s))) with
 | error f=>rw[q] at hg;exact hg.other
 | ok x=>
  obtain⟨x2,e2⟩:=gY q
  rw[ht x2 e2,<- q]
  exact hg
theorem TF{s:Cs}{y:Yd}{o:Option Fo}(hs:look s=.ok y)(hw:bR sH (.ok s)=false):aO .fu (.ok s) (jI (.ok s)) o:=by
 have U0:jI (.ok s)=.error (70,y.a):=by
  show Except.error (70,(qA s).a)=_
  rw[(dS hs).1]
 rw[U0]
 have:=M9 hs (st1:=.error (70,y.a)) (st2:=.error (70,y.a)) (gT:=.error (70,y.a)) (mW:=.error (70,y.a)) (jA hs hw).symm rfl (e?:=some .nil) (b?:=some .nil) aO.bad aO.bad (o:=some (Fo.one (jr 3 y) .nil)) (λt l b e1 e2 e3=>by cases e1)
 exact this.other
def aAa(l:ByteArray)(W:World)(e:Ending)(w':World):Prop:=Below W.heap.size W w'/\((∃f:jv,Ends l.data.toList (.error f)/\e=.returned (.tuple #[.slice none 0 0,fv f]))\/∃fo s' r,Ends l.data.toList (.ok (fo,s'))/\e=.returned (.tuple #[r,fv (0,0)])/\w'.ownsRow W.heap.size 31 6 r (dM fo).length (eH (dM fo)))
theorem GI(l:ByteArray)(hs:l.size<=6000)(W:World):Calls prog 4 #[.string l] W (aAa l W):=by
 have hlen:l.data.toList.length<=65536:=by rw[size_list];omega
 have hb1:Below W.heap.size W ((W.alloc (.cells #[.int .i64 0,.int .i64 0] 25)).alloc (.cells #[.string l,.int .i64 0,.int .i64 0,.string ⟨#[]⟩,.int .i64 0,.int .u64 0,.int .i64 0,.int .i64 0,.int .i64 0,.int .i64 0] 38)):=((aH _ W).alloc (aL _) _).alloc (by simp) _
 have hf1:((W.alloc (.cells #[.int .i64 0,.int .i64 0] 25)).alloc (.cells #[.string l,.int .i64 0,.int .i64 0,.string ⟨#[]⟩,.int .i64 0,.int .u64 0,.int .i64 0,.int .i64 0,.int .i64 0,.int .i64 0] 38)).heap[W.heap.size]? = some (.cells #[.int .i64 0,.int .i64 0] 25 (0,0)):=(Below.heap_alloc _ _ _ (by simp)).trans (bY W _)
 have hr1:((W.alloc (.cells #[.int .i64 0,.int .i64 0] 25)).alloc (.cells #[.string l,.int .i64 0,.int .i64 0,.string ⟨#[]⟩,.int .i64 0,.int .u64 0,.int .i64 0,.int .i64 0,.int .i64 0,.int .i64 0] 38)).heap[W.heap.size+1]? = some (.cells (yS l ⟨⟨0,⟨#[]⟩,0,0⟩,0,0,0⟩ 0 0 0 0) 38 (0,0)):=by
  have:=bY (W.alloc (.cells #[.int .i64 0,.int .i64 0] 25)) (.cells #[.string l,.int .i64 0,.int .i64 0,.string ⟨#[]⟩,.int .i64 0,.int .u64 0,.int .i64 0,.int .i64 0,.int .i64 0,.int .i64 0] 38)
  rwa [dR] at this
 have q0:¬ (65536:Int)<(l.size:Int):=by omega
 have hz:(W.alloc (.cells #[.int .i64 0,.int .i64 0] 25)).heap.size=W.heap.size+1:=dR _ _
 have HLEN:=hid hlen
 have HS:=hid hs
 go_enter func4,ntmps4
 go_upto_region 4 with fail
 (try simp only[hz])
 generalize bO (bO W _) _=W1 at *
 obtain⟨rb,hrb⟩:∃rb,W.heap.size+1=rb:=⟨_,rfl⟩
 obtain⟨fb,XU⟩:∃fb,W.heap.size=fb:=⟨_,rfl⟩
 have hfr:fb≠rb:=by omega
 have hrW:W.heap.size<=rb:=by omega
 have XV:W.heap.size<=fb:=by omega
 rw[hrb] at hr1
 rw[hrb]
 rw[XU] at hf1
 have HFB:=hid XU
 rw[XU]
 clear hrb hz q0 XU
 have CL:Calls prog 8 #[ptr rb,.int .i64 0] W1 λx w'=>x=.returned (.tuple #[])/\It.bL (λk=>k=rb) W1 w'/\∃y',Rd w' rb l (iJ ⟨T (l.data.toList.drop 0) 0,0⟩) y':=tY hr1 hs 0 (Nat.zero_le _) (by omega) (by show -((0:Nat):Int)-1<=0;omega)
 have HF1:=hid hf1
 have HB1:=hid hb1
 have ltr:=(dQ.1 hr1).1
 have ltf:=(dQ.1 hf1).1
 clear hr1 hf1 hb1 hlen
 go_upto_region 5 with(go_at_call 8;(with_reducible refine CL.mono ?_);rintro x w2 ⟨rfl,hu0,y0,hrd⟩)
 have hmb:mu (iJ ⟨T (l.data.toList.drop 0) 0,0⟩)<=6001:=by
  have h1:=AY ⟨T (l.data.toList.drop 0) 0,0⟩
  have h2:(T (l.data.toList.drop 0) 0).length<=6001:=by
   rw[List.drop_zero,<- K9 _ HLEN.out]
   have:=rH l.data.toList
   have:=HS.out
   rw[size_list] at *
   omega
  exact eU h1 h2
 have hx:Rt W1 w2 rb l (iJ ⟨T (l.data.toList.drop 0) 0,0⟩) y0 [] []:=Rt.start ⟨hrd,hs,hmb,hu0,ltr,by simp⟩
 rw[List.drop_zero] at hx
 clear hs hrd hmb hu0 CL
 go_wp2_with (go_at_call 9;(with_reducible refine(Rt.nd0 hx _ _ _).mono ?_);rintro x w2 ⟨pb,rfl,hx2⟩;(replace hx:=hx2);clear hx2)
 obtain⟨st0,Ot⟩:∃st0,iJ ⟨T l.data.toList 0,0⟩=st0:=⟨_,rfl⟩
 rw[Ot] at hx
 have XJ:=hid (λe o (h:aO (.pg .nil) st0 (.error e) o)=>Mh (e:=e) (o:=o) HLEN.out (by rw[Ot];exact h))
 have HEO:=hid (λs fo (h:aO (.pg .nil) st0 (.ok s) (some fo))=>PU (s:=s) (fo:=fo) HLEN.out (by rw[Ot];exact h))
 clear Ot
 have HX:=hid hx
 clear hx
 go_loopw [17] (λ_ wr=>∃ks s' y',Rt W1 wr rb l s' y' [(pb,Fo.one ⟨1,0,⟨#[]⟩,0,0⟩ ks)] []/\Inv .pg (.pg .nil) st0 ks s'/\ks.len+mu s'<=6010) (λ_ wr=>ru wr rb l)
 case atStart=>exact⟨.nil,_,_,HX.out.top,λst2 o g=>g,by have:=HX.out.x.mb;simp only[Fo.len];omega⟩
 case round=>
  obtain⟨ks,s',y',hx,hI,hl⟩:=hrel
  clear HX
  have HM:=hid hx.x.rd.ru
  have HI:=hid hI
  have Nl:=hid hl
  have iy:=hid (show ks.len<=6010 by omega)
  clear hI hl
  cases s' with
  | error e=>
   go_upto_region 16 with(go_at_call 10;(with_reducible refine(ji hx.x).mono ?_);rintro x w2 ⟨rfl,hw⟩;(have hw':=hw.symm);subst hw';clear hw)
   obtain⟨n,o,c,g,h1,rfl,rfl,h0⟩:=hx.x.rd
   have QX:=(hx.x.upd.block fb ltf hfr).trans HF1.out
   have bf:=HB1.out.trans (hx.x.upd.below HB1.out.size (λk e=>by omega))
   have hrd:=aF h1 (aH _ _).drew
   have aA0:=aF QX (aH _ _).drew
   have NI:=hid bf
   have zz:=aC QX
   have ef:=aA QX
   have HFD:=hid QX
   clear h1 QX bf
   refine It.bM (z:=5) (S:=λw'=>w'.cell? ⟨rb,8,none⟩=some (.int .i64 e.1)/\w'.cell? ⟨rb,9,none⟩=some (.int .i64 e.2)) (by kernel_rfl) ?_
   have hS:_/\_:=(⟨aA hrd 8,aA hrd 9⟩:_=some (Value.int .i64 e.1)/\_=some (Value.int .i64 e.2))
   iterate 5 ((refine It.nL 0 ?_ rfl (by kernel_rfl) (λ_ _ _ h=>h) (Or.inl ⟨by rfl,?_⟩) hS ?_);rotate_left;(focus (intro w' hSw;(obtain⟨s8,s9⟩:=hSw);go_simp;(try with_reducible rfl)));(try simp only[Act.put,aW,aV,aU,aT,aS,aR]))
   refine It.aD (i:=5) (by kernel_rfl) rfl rfl (λK hK=>?_)
   refine It.aB (λc h=>by cases h) ?_
   have HK:=hid hK
   clear hK
   go_simp
   refine HK.out _ _ (.inl rfl) ?_
   clear HK
   (try simp only[Act.put,aW,aV,aU,aT,aS,aR])
   refine It.bQ (by kernel_rfl) ?_ _
   have g3:=aF (aM (aM (c:=[.int .i64 0,.int .i64 0]) HFD.out 0 (.int .i64 e.1)) 1 (.int .i64 e.2)) (aH _ _).drew
   have HG3:=hid g3
   clear g3 zz ef aA0 hrd hS
   go_wp2_with fail
   refine bodyPost_ret (Ce rfl _ _ fb _ _ _ (0,0) rfl rfl HG3.out) rfl ?_
   exact⟨((NI.out.setCell (p:=⟨fb,0,none⟩) XV _).setCell (p:=⟨fb,1,none⟩) XV _).drew,.inl ⟨e,XJ.out e none HI.out.bad,rfl⟩⟩
  | ok s1=>
   have HY:=hid hx.ok
   obtain⟨_,c1,_,_,_,_⟩:=hx.cells
   by_cases k7:y'.t.kind=7
   ·have b7:(y'.t.kind != 7)=false:=by simp[k7]
    obtain⟨s9,hen⟩:=HEO.out s1 _ (HI.out _ _ (Rm HY.out k7))
    have aAZ:=hen.few
    have cr:=Uu 100000 ⟨1,0,⟨#[]⟩,0,0⟩ ks (by omega) (aL _) wr _ pb (hx.x.ts _ (gI ..))
    have HEN:=hid hen
    have HFD:=hid ((hx.x.upd.block fb ltf hfr).trans HF1.out)
    have rE:=hid (HB1.out.trans (hx.x.upd.below HB1.out.size (λk e=>by omega)))
    have hsz:=hx.x.upd.size
    clear k7 hen aAZ
    go_wp2_with (first|(go_at_call 10;(with_reducible refine(dH hx.x).mono ?_);rintro x w2 ⟨rfl,hw⟩;(have hw':=hw.symm);subst hw';clear hw)|(go_at_call 17;(with_reducible refine cr.mono ?_);rintro x w9 hr9;(unfold XB at hr9);(obtain⟨r,rfl,hB,ho⟩:=hr9);(have Vk:=aF HFD.out hB);(have z9:=aC Vk);(have e9:=aA Vk)))
    refine bodyPost_ret (Ce rfl _ _ fb _ _ _ (0,0) rfl rfl (aM (aM (c:=[.int .i64 0,.int .i64 0]) Vk 0 (.int .i64 0)) 1 (.int .i64 0))) rfl ?_
    refine⟨((rE.out.trans (hB.mono rE.out.size)).setCell (p:=⟨fb,0,none⟩) XV _).setCell (p:=⟨fb,1,none⟩) XV _,.inr ⟨_,s9,r,HEN.out,rfl,?_⟩⟩
    refine bD (iG ho (λk e=>eU rE.out.size (ho.lt k e).1)) (λk e=>?_)
    have hk:=(ho.lt k e).1
    have hne:k≠fb:=by omega
    exact(dI _ _ _ _ hne).trans (dI _ _ _ _ hne)
   ·have b7:(y'.t.kind != 7)=true:=by simp[k7]
    have K7:=hid k7
    clear k7
    cases g:bR fU (.ok s1)
    ·have hnl:¬aG y'.t=fU:=λe=>by rw[(ak HY.out).2 e] at g;cases g
     have Pp:=hid hnl
     clear hnl
     cases g2:bR sH (.ok s1)
     ·go_wp2_with (first|((with_reducible (apply Calls.mono;first|exact dH hx.x|exact Rt.nG hx _ (by decide) (by assumption)));rintro x w2 ⟨rfl,hw⟩;(have hw':=hw.symm);subst hw';clear hw)|(go_at_call 16;(with_reducible refine(Rt.wrong hx).mono ?_);rintro x w2 ⟨b4,rfl,hx2⟩;(replace hx:=hx2);clear hx2))
      go_roundw
      case rel=>
       have hi:=tq HI.out HY.out K7.out (r:=.nil) (by rw[if_neg Pp.out];exact TF HY.out g2)
       exact⟨ks,_,_,hx.sub (λp hp=>by rw[List.mem_singleton.1 hp];exact List.mem_cons_of_mem _ (gI ..)) (λp hp=>hp),λst2 o q=>hi st2 o q,by rw[lK];have:=Nl.out;omega⟩
      case measure=>
       rw[hx.x.rd.ru,HM.out,lK]
       exact sD HY.out
     ·go_upto_region 13 with((with_reducible (apply Calls.mono;first|exact dH hx.x|exact Rt.nG hx _ (by decide) (by assumption)|exact Rt.lX hx _ (by decide) (by assumption)));rintro x w2 ⟨rfl,hw⟩;(have hw':=hw.symm);subst hw';clear hw)
      clear c1 b7
      obtain⟨u,bk,hbr⟩:=Bt.of (hx.x.ts (pb,Fo.one ⟨1,0,⟨#[]⟩,0,0⟩ ks) (by simp))
      have hlen:=cZ.len hbr.kids
      obtain⟨uo,uc,rfl⟩:=hbr.slice
      replace hx:=hx.drew
      have HB:=hid (hbr.upd hx.x.lt (It.bL.of_below (aH _ _).drew))
      have HL:=hid hlen
      clear hbr hlen
      refine It.bM (z:=11) (S:=λw'=>w'.cell? ⟨pb,6,none⟩=some (Value.slice uo bk.length uc)) (by kernel_rfl) ?_
      have hS:_:=(aA HB.out.top 6:_=some (Value.slice uo bk.length uc))
      iterate 6 ((refine It.nL 0 ?_ rfl (by kernel_rfl) (λ_ _ _ h=>h) (Or.inl ⟨by rfl,?_⟩) hS ?_);rotate_left;(focus (intro w' hSw;go_simp;(try with_reducible rfl)));(try simp only[Act.put,aW,aV,aU,aT,aS,aR]))
      refine It.aD (i:=6) (by kernel_rfl) rfl rfl (λK hK=>?_)
      refine It.aB (λc h=>by cases h) ?_
      have HK:=hid hK
      clear hK
      go_simp
      refine(Rt.jZ hx (Aj (mu (.ok s1))) (aL _)).mono ?_
      rintro e w2 ⟨b3,m3,k3,gT,y3,rfl,hx2,hU,hfx,ho3,hc3,xw⟩
      have hb2:=HB.out.upd hx.x.lt hU
      refine HK.out _ _ (.inr (aA hb2.top 6)) ?_
      clear HK hS
      (try simp only[Act.put,aW,aV,aU,aT,aS,aR])
      obtain⟨u2,w4,hrun,ho2,hg2,hk2⟩:=bS w2 44 (.slice uo bk.length uc) bk.length _ hb2.row hx2.x.upd.size b3 (by have:=HL.out;have:=iy.out;omega)
      obtain⟨o2,c2,rfl⟩:=aI ho2
      refine It.aD (i:=7) (by kernel_rfl) rfl rfl (λK hK=>?_)
      refine It.aB (λc h=>by cases h) ?_
      have HK:=hid hK
      clear hK
      go_simp
      have hb3:=aF hb2.top ((aH _ w2).alloc (aL _) (.cells #[ptr b3] 40))
      refine HK.out _ _ (.inr (aA hb3 6)) ?_
      clear HK
      (try simp only[Act.put,aW,aV,aU,aT,aS,aR])
      refine It.aD (i:=8) (by kernel_rfl) rfl rfl (λK hK=>?_)
      refine It.aB (λc h=>by cases h) ?_
      refine jl _ (.tmp 56) (.tmp 59) 44 44 rfl _ _ rfl rfl _ _ hrun ?_
      have t4:=(hg2.block _ (dQ.1 hb3).1 (λe=>HB.out.ne _ e.symm rfl)).trans hb3
      have hS:_:=(aA t4 6:_=some (Value.slice uo bk.length uc))
      refine hK _ _ (.inr hS) ?_
      clear hK K hrun
      (try simp only[Act.put,aW,aV,aU,aT,aS,aR])
      refine It.aD (i:=9) (by kernel_rfl) rfl rfl (λK hK=>?_)
      refine It.aB (λc h=>by cases h) ?_
      have HK:=hid hK
      clear hK
      go_simp
      refine HK.out _ _ (.inr hS) ?_
      clear HK
      (try simp only[Act.put,aW,aV,aU,aT,aS,aR])
      refine It.aD (i:=10) (by kernel_rfl) rfl rfl (λK hK=>?_)
      refine It.aB (λc h=>by cases h) ?_
      have HK:=hid hK
      clear hK
      go_simp
      refine HK.out _ _ (.inr hS) ?_
      clear HK
      (try simp only[Act.put,aW,aV,aU,aT,aS,aR])
      refine It.aD (i:=11) (by kernel_rfl) rfl rfl (λK hK=>?_)
      refine It.aB (λc h=>by cases h) ?_
      have HK:=hid hK
      clear hK
      have zz:=aC t4 6
      go_simp
      have hx3:=Rt.append hx2 hU hx.x.upd.size HB.out hfx ho2 hg2 hk2
      refine HK.out _ _ (.inl rfl) ?_
      clear HK
      (try simp only[Act.put,aW,aV,aU,aT,aS,aR])
      replace hx:=hx3
      clear hx3 hx2 hU hfx HB HL hb2 hb3 t4 zz hS ho2 hg2 hk2
      refine It.bQ (by kernel_rfl) ?_ _
      have h1:=p9 ks m3 k3
      go_wp2_with fail
      go_roundw
      case rel=>exact⟨_,_,_,hx,tq HI.out HY.out K7.out (by rw[if_neg Pp.out];exact ho3),by have:=Nl.out;have:=ho3.GY (by decide) HY.out;omega⟩
      case measure=>
       rw[hx.x.rd.ru,HM.out]
       exact ho3.GY (by decide) HY.out
    ·go_upto_region 9 with(first|((with_reducible (apply Calls.mono;first|exact dH hx.x|exact Rt.lX hx _ (by decide) (by assumption)));rintro x w2 ⟨rfl,hw⟩;(have hw':=hw.symm);subst hw';clear hw)|(go_at_call 12;(with_reducible refine(Rt.stepT hx fU (by decide) g).mono ?_);rintro x w2 ⟨rfl,y2,hx2,q2⟩;(replace hx:=hx2);clear hx2))
     clear c1 b7
     have HZ:=hid hx.mH
     have UF:=hid (pq hx 2)
     go_upto_region 10 with(go_at_call 13;(with_reducible refine(Rt.name hx).mono ?_);rintro x w2 ⟨rfl,y3,hx2,q3⟩;(replace hx:=hx2);clear hx2)
     obtain⟨u,bk,hbr⟩:=Bt.of (hx.x.ts (pb,Fo.one ⟨1,0,⟨#[]⟩,0,0⟩ ks) (gI ..))
     have hlen:=cZ.len hbr.kids
     obtain⟨uo,uc,rfl⟩:=hbr.slice
     obtain⟨tb,htb,jg⟩:=hx.mq y2
     have hne:=hid (show ∀k,(Value.slice uo bk.length uc).ownBlock=some k->k≠tb from λk e=>by have:=(hbr.row.lt k e).2;omega)
     have FD:=hbr.upd hx.x.lt (It.bL.of_below ((aH _ _).alloc (aL _) (.cells #[.int .i64 y2.t.kind,.int .i64 y2.a,.string y2.t.text,.int .i64 y2.t.int,.int .u64 y2.t.bits] 36)))
     rw[htb]
     clear htb hbr
     (replace hx:=jg);clear jg
     generalize bO _ _=w9 at *
     go_upto_region 11 with(go_at_call 14;(with_reducible refine(Rx.want hx.x.gP bV (by decide)).mono ?_);rintro x w2 ⟨rfl,y4,h2⟩;(have hq4:=AX bV hx.x.good);(replace FD:=FD.upd hx.x.lt h2.upd);(replace hx:=hx.merge h2 hq4);clear h2)
     replace hx:=hx.drew
     have HB:=hid (FD.upd hx.x.lt (It.bL.of_below (aH _ _).drew))
     have HL:=hid hlen
     have HT:=hid (hx.RI (gI ..))
     have NR:=hid (show tb≠rb by have:=(hx.tk _ (gI ..)).1;have:=hx.x.lt;omega)
     have NE:=hne
     clear FD hlen hne
     refine It.bM (z:=14) (S:=λw'=>w'.cell? ⟨pb,6,none⟩=some (Value.slice uo bk.length uc)/\w'.cell? ⟨tb,1,none⟩=some (.int .i64 y2.a)/\w'.cell? ⟨tb,2,none⟩=some (.string y2.t.text)) (by kernel_rfl) ?_
     have hS:_/\_/\_:=(⟨aA HB.out.top 6,aA HT.out 1,aA HT.out 2⟩:_=some (Value.slice uo bk.length uc)/\_=some (Value.int .i64 y2.a)/\_=some (Value.string y2.t.text))
     iterate 9 ((refine It.nL 0 ?_ rfl (by kernel_rfl) (λ_ _ _ h=>h) (Or.inl ⟨by rfl,?_⟩) hS ?_);rotate_left;(focus (intro w' hSw;(obtain⟨s0,s1,s2⟩:=hSw);go_simp;(try with_reducible rfl)));(try simp only[Act.put,aW,aV,aU,aT,aS,aR]))
     refine It.aD (i:=9) (by kernel_rfl) rfl rfl (λK hK=>?_)
     refine It.aB (λc h=>by cases h) ?_
     have HK:=hid hK
     clear hK
     go_simp
     refine(Rt.SE hx _ _ _).mono ?_
     rintro e w2 ⟨b3,rfl,hx2,hU,hfx⟩
     have hb2:=HB.out.upd hx.x.lt hU
     have ht2:=(hU.block _ (dQ.1 HT.out).1 NR.out).trans HT.out
     refine HK.out _ _ (.inr ⟨aA hb2.top 6,aA ht2 1,aA ht2 2⟩) ?_
     clear HK hS
     (try simp only[Act.put,aW,aV,aU,aT,aS,aR])
     obtain⟨u2,w4,hrun,ho2,hg2,hk2⟩:=bS w2 44 (.slice uo bk.length uc) bk.length _ hb2.row hx2.x.upd.size b3 (by have:=HL.out;have:=iy.out;omega)
     obtain⟨o2,c2,rfl⟩:=aI ho2
     refine It.aD (i:=10) (by kernel_rfl) rfl rfl (λK hK=>?_)
     refine It.aB (λc h=>by cases h) ?_
     have HK:=hid hK
     clear hK
     go_simp
     have hb3:=aF hb2.top ((aH _ w2).alloc (aL _) (.cells #[ptr b3] 40))
     have ht3:=aF ht2 ((aH _ w2).alloc (aL _) (.cells #[ptr b3] 40))
     refine HK.out _ _ (.inr ⟨aA hb3 6,aA ht3 1,aA ht3 2⟩) ?_
     clear HK
     (try simp only[Act.put,aW,aV,aU,aT,aS,aR])
     refine It.aD (i:=11) (by kernel_rfl) rfl rfl (λK hK=>?_)
     refine It.aB (λc h=>by cases h) ?_
     refine jl _ (.tmp 40) (.tmp 46) 44 44 rfl _ _ rfl rfl _ _ hrun ?_
     have t4:=(hg2.block _ (dQ.1 hb3).1 (λe=>HB.out.ne _ e.symm rfl)).trans hb3
     have ML:=(hg2.block _ (dQ.1 ht3).1 (λe=>NE.out _ e.symm rfl)).trans ht3
     have hS:_/\_/\_:=(⟨aA t4 6,aA ML 1,aA ML 2⟩:_=some (Value.slice uo bk.length uc)/\_=some (Value.int .i64 y2.a)/\_=some (Value.string y2.t.text))
     refine hK _ _ (.inr hS) ?_
     clear hK K hrun
     (try simp only[Act.put,aW,aV,aU,aT,aS,aR])
     refine It.aD (i:=12) (by kernel_rfl) rfl rfl (λK hK=>?_)
     refine It.aB (λc h=>by cases h) ?_
     have HK:=hid hK
     clear hK
     go_simp
     refine HK.out _ _ (.inr hS) ?_
     clear HK
     (try simp only[Act.put,aW,aV,aU,aT,aS,aR])
     refine It.aD (i:=13) (by kernel_rfl) rfl rfl (λK hK=>?_)
     refine It.aB (λc h=>by cases h) ?_
     have HK:=hid hK
     clear hK
     go_simp
     refine HK.out _ _ (.inr hS) ?_
     clear HK
     (try simp only[Act.put,aW,aV,aU,aT,aS,aR])
     refine It.aD (i:=14) (by kernel_rfl) rfl rfl (λK hK=>?_)
     refine It.aB (λc h=>by cases h) ?_
     have HK:=hid hK
     clear hK
     have zz:=aC t4 6
     obtain⟨s0,s1,s2⟩:=hS
     go_simp
     have hx3:=Rt.append hx2 hU hx.x.upd.size HB.out hfx ho2 hg2 hk2
     refine HK.out _ _ (.inl rfl) ?_
     clear HK
     (try simp only[Act.put,aW,aV,aU,aT,aS,aR])
     replace hx:=hx3
     clear hx3 hx2 hU hfx HB HL hb2 hb3 t4 zz s0 s1 s2 ho2 hg2 hk2 ht2 ht3 ML HT NE NR
     refine It.bQ (by kernel_rfl) ?_ _
     have h1:=p9 ks ⟨2,y2.a,y2.t.text,0,0⟩ .nil
     go_wp2_with fail
     go_roundw
     case rel=>exact⟨_,_,_,hx,tq HI.out HY.out K7.out (by rw[if_pos ((ak HY.out).1 g)];exact Vr HY.out g HZ.out UF.out),by have:=Nl.out;omega⟩
     case measure=>
      rw[hx.x.rd.ru,HM.out]
      omega
abbrev Nn:=Nd × Nat
def nK(K:Int):Nn:=(⟨K,0,⟨#[]⟩,0,0⟩,0)
def Dg(K:Int)(k:Nat)(Z:List Nn):List Nn:=ay k (nK K)++Z.drop k
theorem Cg(K:Int)(Z:List Nn):Dg K 0 Z=Z:=by simp[Dg]
theorem GR(K:Int)(Z:List Nn):Dg K Z.length Z=ay Z.length (nK K):=by simp[Dg]
theorem GQ(K:Int)(k:Nat)(Z:List Nn)(h:k<=Z.length):(Dg K k Z).length=Z.length:=by
 simp[Dg];omega
theorem Lc(K:Int)(k:Nat)(Z:List Nn)(h:k<Z.length)(h2:k<(Dg K k Z).length):(Dg K k Z)[k]=Z[k]:=by
 unfold Dg at h2 ⊢
 rw[List.getElem_append_right (by simp)]
 simp
theorem GN(K:Int)(k:Nat)(Z:List Nn)(h:k<Z.length):(Dg K k Z).set k (nK K)=Dg K (k+1) Z:=by
 unfold Dg
 rw[List.drop_eq_getElem_cons h,List.set_append_right _ _ (by simp),List.length_replicate,Nat.sub_self,List.set_cons_zero,List.replicate_succ',List.append_assoc]
 rfl
theorem Ht(L:List Nn)(k j:Nat)(hk:k<L.length)(hj:j<6):(eH L)[k*6+j]? = (qM L[k])[j]?:=by
 induction L generalizing k with
 | nil=>exact absurd hk (Nat.not_lt_zero k)
 | cons z L ih=>
  have hz:(qM z).toList.length=6:=rfl
  cases k with
  | zero=>
   show ((qM z).toList++eH L)[0*6+j]? = _
   rw[List.getElem?_append_left (by omega),Nat.zero_mul,Nat.zero_add]
   simp
  | succ k=>
   show ((qM z).toList++eH L)[(k+1)*6+j]? = _
   rw[List.getElem?_append_right (by omega),hz,show (k+1)*6+j-6=k*6+j by omega,ih k (by simpa using hk)]
   rfl
theorem Hr(L:List Nn)(k:Nat)(y:Nn):eH (L.set k y)=((((((eH L).set (k*6) (.int .i64 y.1.kind)).set (k*6+1) (.int .i64 y.1.a)).set (k*6+2) (.int .i64 (y.2:Nat))).set (k*6+3) (.string y.1.text)).set (k*6+4) (.int .i64 y.1.int)).set (k*6+5) (.int .u64 y.1.bits):=by
 induction L generalizing k with
 | nil=>simp[eH]
 | cons z L ih=>
  cases k with
  | zero=>simp[eH,qM]
  | succ k=>
   have e0:(k+1)*6=k*6+6:=by omega
   have:=ih k
   unfold eH at this ⊢
   rw[List.set_cons_succ,List.flatMap_cons,List.flatMap_cons,this,e0]
   simp[qM]
theorem yP(K:Int)(m:Nat):eH (ay (m+1) (nK K))=eH (ay m (nK K))++[.int .i64 K,.int .i64 0,.int .i64 0,.string ⟨#[]⟩,.int .i64 0,.int .u64 0]:=by
 unfold eH
 rw[List.replicate_succ',List.flatMap_append]
 rfl
def jE(W:World)(B:Nat)(o:Option Addr)(n cap:Nat)(L:List Nn):Prop:=W.ownsRow B 31 6 (.slice o n cap) n (eH L)
theorem jE.at{W:World}{B g n cap:Nat}{L:List Nn}(h:jE W B (some ⟨g,0,none⟩) n cap L)(hn:L.length=n)(k:Nat)(hk:k<L.length):W.cell? ⟨g,k*6,none⟩=some (.int .i64 L[k].1.kind)/\W.cell? ⟨g,k*6+1,none⟩=some (.int .i64 L[k].1.a)/\W.cell? ⟨g,k*6+2,none⟩=some (.int .i64 (L[k].2:Nat))/\W.cell? ⟨g,k*6+3,none⟩=some (.string L[k].1.text)/\W.cell? ⟨g,k*6+4,none⟩=some (.int .i64 L[k].1.int)/\W.cell? ⟨g,k*6+5,none⟩=some (.int .u64 L[k].1.bits):=by
 have key:∀j,j<6->W.cell? ⟨g,k*6+j,none⟩=(qM L[k])[j]?:=λj hj=>by
  rw[<- Ht L k j hk hj]
  exact h.cellAt (k*6+j) (by omega)
 exact⟨key 0 (by omega),key 1 (by omega),key 2 (by omega),key 3 (by omega),key 4 (by omega),key 5 (by omega)⟩
theorem jE.form{W:World}{B n cap:Nat}{o:Option Addr}{L:List Nn}(h:jE W B o n cap L)(hn:0<n):∃g,o=some ⟨g,0,none⟩:=by
 rcases h.2 with⟨_,e0⟩|⟨g,cap',cur,e,_⟩
 ·omega
 ·simp only[Value.slice.injEq] at e
  exact⟨g,e.1⟩
theorem jE.on{W W':World}{B n cap:Nat}{o:Option Addr}{L:List Nn}(h:jE W B o n cap L)(hk:∀k,(Value.slice o n cap).ownBlock=some k->W'.heap[k]? = W.heap[k]?):jE W' B o n cap L:=bD h hk
theorem jE.below{W W':World}{B n cap:Nat}{o:Option Addr}{L:List Nn}(h:jE W B o n cap L)(hb:Below W.heap.size W W'):jE W' B o n cap L:=h.on (λk e=>hb.block k (h.lt k e).2)
theorem jE.write{W:World}{B g n cap:Nat}{L:List Nn}(h:jE W B (some ⟨g,0,none⟩) n cap L)(k:Nat)(y:Nn) :
  jE ((((((W.setCell ⟨g,k*6,none⟩ (.int .i64 y.1.kind)).setCell ⟨g,k*6+1,none⟩ (.int .i64 y.1.a)).setCell ⟨g,k*6+2,none⟩ (.int .i64 (y.2:Nat))).setCell ⟨g,k*6+3,none⟩ (.string y.1.text)).setCell ⟨g,k*6+4,none⟩ (.int .i64 y.1.int)).setCell ⟨g,k*6+5,none⟩ (.int .u64 y.1.bits)) B (some ⟨g,0,none⟩) n cap (L.set k y):=by
 unfold jE
 rw[Hr]
 exact((((((h.stored (k*6) _).1.stored (k*6+1) _).1.stored (k*6+2) _).1.stored (k*6+3) _).1.stored (k*6+4) _).1.stored (k*6+5) _).1
theorem Vz{W:World}{j g:Nat}(h:j≠g)(o0 o1 o2 o3 o4 o5:Nat)(v0 v1 v2 v3 v4 v5:Value):((((((W.setCell ⟨g,o0,none⟩ v0).setCell ⟨g,o1,none⟩ v1).setCell ⟨g,o2,none⟩ v2).setCell ⟨g,o3,none⟩ v3).setCell ⟨g,o4,none⟩ v4).setCell ⟨g,o5,none⟩ v5).heap[j]? = W.heap[j]?:=
 (dI _ _ _ _ h).trans ((dI _ _ _ _ h).trans ((dI _ _ _ _ h).trans ((dI _ _ _ _ h).trans ((dI _ _ _ _ h).trans (dI _ _ _ _ h)))))
theorem NH{w W:World}{g:Nat}(h:Below w.heap.size w W)(hg:w.heap.size<=g)(o0 o1 o2 o3 o4 o5:Nat)(v0 v1 v2 v3 v4 v5:Value):Below w.heap.size w ((((((W.setCell ⟨g,o0,none⟩ v0).setCell ⟨g,o1,none⟩ v1).setCell ⟨g,o2,none⟩ v2).setCell ⟨g,o3,none⟩ v3).setCell ⟨g,o4,none⟩ v4).setCell ⟨g,o5,none⟩ v5):=
 (((((h.setCell (p:=⟨g,o0,none⟩) hg _).setCell (p:=⟨g,o1,none⟩) hg _).setCell (p:=⟨g,o2,none⟩) hg _).setCell (p:=⟨g,o3,none⟩) hg _).setCell (p:=⟨g,o4,none⟩) hg _).setCell (p:=⟨g,o5,none⟩) hg _
structure Df (w W:World) (P2 P3:Nat) (o2 o3:Option Addr) (m k2 k3:Nat) (A B:List Nn):Prop where
 bf:Below w.heap.size w W
 p2:w.heap.size<=P2
 p3:P2<=P3
 p4:P3<=W.heap.size
 r2:jE W P2 o2 m k2 A
 r3:jE W P3 o3 m k3 B
 u2:∀j,(Value.slice o2 m k2).ownBlock=some j->j<P3
section
variable {w W:World} {P2 P3:Nat} {o2 o3:Option Addr} {m k2 k3:Nat} {A B:List Nn}
theorem Df.go{W':World}(h:Df w W P2 P3 o2 o3 m k2 k3 A B)(hb:Below W.heap.size W W'):Df w W' P2 P3 o2 o3 m k2 k3 A B:=
 ⟨h.bf.trans (hb.mono h.bf.size),h.p2,h.p3,eU h.p4 hb.size,h.r2.below hb,h.r3.below hb,h.u2⟩
theorem Df.write{g2 g3:Nat}(h:Df w W P2 P3 (some ⟨g2,0,none⟩) (some ⟨g3,0,none⟩) m k2 k3 A B)(k:Nat)(a b:Nn) :
  Df w ((((((((((((W.setCell ⟨g2,k*6,none⟩ (.int .i64 a.1.kind)).setCell ⟨g2,k*6+1,none⟩ (.int .i64 a.1.a)).setCell ⟨g2,k*6+2,none⟩ (.int .i64 (a.2:Nat))).setCell ⟨g2,k*6+3,none⟩ (.string a.1.text)).setCell ⟨g2,k*6+4,none⟩ (.int .i64 a.1.int)).setCell ⟨g2,k*6+5,none⟩ (.int .u64 a.1.bits)).setCell ⟨g3,k*6,none⟩ (.int .i64 b.1.kind)).setCell ⟨g3,k*6+1,none⟩ (.int .i64 b.1.a)).setCell ⟨g3,k*6+2,none⟩ (.int .i64 (b.2:Nat))).setCell ⟨g3,k*6+3,none⟩ (.string b.1.text)).setCell ⟨g3,k*6+4,none⟩ (.int .i64 b.1.int)).setCell ⟨g3,k*6+5,none⟩ (.int .u64 b.1.bits)) P2 P3 (some ⟨g2,0,none⟩) (some ⟨g3,0,none⟩) m k2 k3 (A.set k a) (B.set k b):=by
 have l2:=h.r2.lt g2 rfl
 have l3:=h.r3.lt g3 rfl
 have l4:=h.u2 g2 rfl
 have q2:=h.p2
 have q3:=h.p3
 have q4:=h.p4
 have b1:=NH h.bf (g:=g2) (by omega) (k*6) (k*6+1) (k*6+2) (k*6+3) (k*6+4) (k*6+5) (.int .i64 a.1.kind) (.int .i64 a.1.a) (.int .i64 (a.2:Nat)) (.string a.1.text) (.int .i64 a.1.int) (.int .u64 a.1.bits)
 have s2:=h.r2.write k a
 have s3:jE _ P3 (some ⟨g3,0,none⟩) m k3 B:=h.r3.on (λj e=>Vz (W:=W) (j:=j) (g:=g2) (by have:=(h.r3.lt j e).1;omega) (k*6) (k*6+1) (k*6+2) (k*6+3) (k*6+4) (k*6+5) (.int .i64 a.1.kind) (.int .i64 a.1.a) (.int .i64 (a.2:Nat)) (.string a.1.text) (.int .i64 a.1.int) (.int .u64 a.1.bits))
 have z5:W.heap.size<=((((((W.setCell ⟨g2,k*6,none⟩ (.int .i64 a.1.kind)).setCell ⟨g2,k*6+1,none⟩ (.int .i64 a.1.a)).setCell ⟨g2,k*6+2,none⟩ (.int .i64 (a.2:Nat))).setCell ⟨g2,k*6+3,none⟩ (.string a.1.text)).setCell ⟨g2,k*6+4,none⟩ (.int .i64 a.1.int)).setCell ⟨g2,k*6+5,none⟩ (.int .u64 a.1.bits)).heap.size:=by simp
 generalize (((((W.setCell ⟨g2,k*6,none⟩ (.int .i64 a.1.kind)).setCell ⟨g2,k*6+1,none⟩ (.int .i64 a.1.a)).setCell ⟨g2,k*6+2,none⟩ (.int .i64 (a.2:Nat))).setCell ⟨g2,k*6+3,none⟩ (.string a.1.text)).setCell ⟨g2,k*6+4,none⟩ (.int .i64 a.1.int)).setCell ⟨g2,k*6+5,none⟩ (.int .u64 a.1.bits)=W5 at *
 refine⟨NH b1 (g:=g3) (by omega) _ _ _ _ _ _ _ _ _ _ _ _,q2,q3,?_,s2.on (λj e=>Vz (by have:=h.u2 j e;omega) _ _ _ _ _ _ _ _ _ _ _ _),s3.write k b,h.u2⟩
 simp only[World.size_setCell]
 omega
end
def Jg:List (Nd × Nat):=[(⟨1,0,⟨#[]⟩,0,0⟩,1),(⟨3,3,⟨#[102]⟩,0,0⟩,2),(⟨4,5,⟨#[97]⟩,0,0⟩,0),(⟨5,8,⟨#[]⟩,0,0⟩,1),(⟨15,10,⟨#[]⟩,0,0⟩,1),(⟨21,23,⟨#[45]⟩,0,0⟩,2),(⟨21,19,⟨#[45]⟩,0,0⟩,2),(⟨25,17,⟨#[97]⟩,0,0⟩,0),(⟨26,21,⟨#[]⟩,1,0⟩,0),(⟨25,25,⟨#[97]⟩,0,0⟩,0)]
theorem Tf:dM awT=Jg:=by kernel_rfl
theorem Wj:lX Jg=true:=by kernel_rfl
def awO:List UInt8:=[102,110,32,102,32,40,32,97,32,41,32,123,32,114,101,116,117,114,110,32,40,32,40,32,97,32,45,32,49,32,41,32,45,32,97,32,41,32,59,32,125,10]
theorem Wi:O4 (Ue (λ_=>⟨#[]⟩)) Jg 60 [tK] 0 []=some awO:=by kernel_rfl
theorem NJ:∀p ∈ Jg,XE p/\¬p.1.kind=27/\¬p.1.kind=28:=by
 intro p hp
 simp only[Jg,List.mem_cons,List.not_mem_nil,or_false] at hp
 rcases hp with rfl|rfl|rfl|rfl|rfl|rfl|rfl|rfl|rfl|rfl <;> exact⟨⟨by decide,by decide,by decide,by decide⟩,by decide,by decide⟩
theorem Jf(w:World)(ht:Tabs w)(hm:MarksIn w):Calls prog 7 #[] w λe w'=>e=.returned (.bool true)/\Below w.heap.size w w':=by
 obtain⟨s',he⟩:=Pg
 have cp:=wL ⟨#[102,110,32,102,40,97,41,32,123,32,114,101,116,117,114,110,32,97,32,45,32,49,32,45,32,97,59,32,125]⟩ (by decide) w ht hm he
 rw[Tf] at cp
 have c2:∀w1 r,Below w.heap.size w w1->w1.ownsRow w.heap.size 31 6 r Jg.length (eH Jg)->Calls prog 22 #[r] w1 λe w'=>e=.returned (.tuple #[.string ⟨#[102,110,32,102,32,40,32,97,32,41,32,123,32,114,101,116,117,114,110,32,40,32,40,32,97,32,45,32,49,32,41,32,45,32,97,32,41,32,59,32,125,10]⟩,.int .i64 0])/\Below w1.heap.size w1 w':=by
  intro w1 r hB ho
  exact ET (λ_=>⟨#[]⟩) w1 r Jg (QI ho (by decide) (by decide)) (λk e=>(ho.lt k e).2) Wj (λp hp=>(NJ p hp).1) (λp hp e=>absurd e (NJ p hp).2.1) (λp hp e=>absurd e (NJ p hp).2.2) 60 awO Wi (ht.below hB) (hm.below hB)
 have c3:Calls prog 5 #[.string ⟨#[102,110,32,102,40,97,41,32,123,32,114,101,116,117,114,110,32,97,32,45,32,49,32,45,32,97,59,32,125]⟩] w λe w'=>∃g cap,e=.returned (.tuple #[.slice (some ⟨g,0,none⟩) 10 cap,.agg #[.int .i64 0,.int .i64 0]])/\Below w.heap.size w w'/\10<=cap/\w'.ownsRow w.heap.size 31 6 (.slice (some ⟨g,0,none⟩) 10 cap) Jg.length (eH Jg):=by
  refine cp.mono ?_
  rintro e w' ⟨r,rfl,hB,ho⟩
  rcases ho.2 with⟨_,h0⟩|⟨g,cap,cur,rfl,h2,h3,h4,_⟩
  ·cases h0
  ·exact⟨g,cap,rfl,hB,h4,ho⟩
 clear cp ht hm he
 go_enter func7,ntmps7
 go_wp2_with (first|(go_at_call 5;(with_reducible refine c3.mono ?_);rintro e w2 ⟨g,cap,rfl,hB2,hcap,ho2⟩;(have b3:Below w2.heap.size w2 (w2.alloc (.cells #[.int .i64 0,.int .i64 0] 25)):=(aH _ w2).alloc (aL _) _);(have hf3:=bY w2 (.cells #[.int .i64 0,.int .i64 0] 25));(have HB3:=hid (hB2.trans (b3.mono hB2.size)));(have UE:=hid (bD ho2 (λk e=>b3.block k (ho2.lt k e).2)));clear hB2 ho2 b3 c3)|(go_at_call 22;((with_reducible refine(c2 _ _ HB3.out UE.out).mono ?_);rintro e w5 ⟨rfl,uS⟩;(have d0:=aA (aF hf3 uS) 0);(have d1:=aA (aF hf3 uS) 1);simp only[List.getElem?_toArray,List.getElem?_cons_succ,List.getElem?_cons_zero] at d0 d1;(have n5:=(QI UE.out (by decide) (by decide)).below uS (λk e=>(UE.out.lt k e).2));(obtain⟨x0,x1,x2,x3,x4,x5⟩:=og (L:=Jg) (show NR w5 (.slice (some ⟨g,0,none⟩) Jg.length cap) Jg from n5) 5 (⟨21,23,⟨#[45]⟩,0,0⟩,2) rfl);(have Xf:=hid (HB3.out.trans (uS.mono HB3.out.size)));clear uS n5 c2)))
 go_ret
 exact⟨rfl,Xf.out⟩
theorem Li(x:Nn)(w:World):(binOp .neq 31 (.agg #[.int .i64 x.1.kind,.int .i64 x.1.a,.int .i64 (x.2:Nat),.string x.1.text,.int .i64 x.1.int,.int .u64 x.1.bits]) (.agg #[.int .i64 x.1.kind,.int .i64 x.1.a,.int .i64 (x.2:Nat),.string x.1.text,.int .i64 x.1.int,.int .u64 x.1.bits])).run prog w=.ok (.bool false) w:=by
 simp[go_sem]
theorem Cn(x y:Nn)(o p:Operand)(w:World):(eqGuard .neq 31 o p (.agg #[.int .i64 x.1.kind,.int .i64 x.1.a,.int .i64 (x.2:Nat),.string x.1.text,.int .i64 x.1.int,.int .u64 x.1.bits]) (.agg #[.int .i64 y.1.kind,.int .i64 y.1.a,.int .i64 (y.2:Nat),.string y.1.text,.int .i64 y.1.int,.int .u64 y.1.bits])).run prog w=.ok () w:=run_eqGuard_agg w .neq _ o p _ _ (by kernel_rfl)
theorem Ki(w:World)(B1 B2:Nat)(o1 o2:Option Addr)(k1 k2 m:Nat)(L:List Nn)(hL:L.length=m)(hm:m<=100000)(h1:jE w B1 o1 m k1 L)(h2:jE w B2 o2 m k2 L):Calls prog 6 #[.slice o1 m k1,.slice o2 m k2] w λe w'=>e=.returned (.bool true)/\Below w.heap.size w w':=by
 have HL:=hid (aY hL hm)
 have HR:=hid (aY h1 h2)
 clear hL hm h1 h2
 go_enter func6,ntmps6
 go_wp2_with fail
 go_loopw [5] (λi wr=>∃k:Nat,i=.int .i64 k/\k<=m/\Below w.heap.size w wr) (λi _=>m-(intOf i).toNat)
 case atStart=>exact⟨0,rfl,Nat.zero_le _,aH _ _⟩
 case round=>
  obtain⟨k,rfl,hk,hB⟩:=hrel
  have HB:=hid hB
  have v1:IntKind.i64.wrap ((k:Int)+1)=((k+1:Nat):Int):=by have:=HL.out;rw[gy];omega
  have v2:wrap64 ((k:Int)+1)=((k+1:Nat):Int):=by have:=HL.out;unfold wrap64;omega
  by_cases ck:k<m
  ·obtain⟨g1,rfl⟩:=HR.out.1.form (by omega)
   obtain⟨g2,rfl⟩:=HR.out.2.form (by omega)
   have kz:k<L.length:=by rw[HL.out.1];exact ck
   have r1:=HR.out.1.below hB
   have r2:=HR.out.2.below hB
   have hS:(_/\_/\_/\_/\_/\_)/\(_/\_/\_/\_/\_/\_):=⟨r1.at HL.out.1 k kz,r2.at HL.out.1 k kz⟩
   have x2:(k:Int)<(m:Int):=by omega
   have x0:(0:Int)<=(k:Int):=by omega
   have HC:=hid ck
   generalize L[k]=x at *
   have ne:=Li x
   have ng:=Cn x x
   clear hB hk ck r1 r2 kz
   go_upto_region 6 with fail
   go_region_held3 (λw'=>((w'.cell? ⟨g1,k*6,none⟩=some (.int .i64 x.1.kind)/\w'.cell? ⟨g1,k*6+1,none⟩=some (.int .i64 x.1.a)/\w'.cell? ⟨g1,k*6+2,none⟩=some (.int .i64 (x.2:Nat))/\w'.cell? ⟨g1,k*6+3,none⟩=some (.string x.1.text)/\w'.cell? ⟨g1,k*6+4,none⟩=some (.int .i64 x.1.int)/\w'.cell? ⟨g1,k*6+5,none⟩=some (.int .u64 x.1.bits))/\(w'.cell? ⟨g2,k*6,none⟩=some (.int .i64 x.1.kind)/\w'.cell? ⟨g2,k*6+1,none⟩=some (.int .i64 x.1.a)/\w'.cell? ⟨g2,k*6+2,none⟩=some (.int .i64 (x.2:Nat))/\w'.cell? ⟨g2,k*6+3,none⟩=some (.string x.1.text)/\w'.cell? ⟨g2,k*6+4,none⟩=some (.int .i64 x.1.int)/\w'.cell? ⟨g2,k*6+5,none⟩=some (.int .u64 x.1.bits)))) (exact hS) (fail)
   go_wp2_with fail
   go_roundw
   case rel=>exact⟨k+1,by go_num,HC.out,HB.out.drew⟩
   case measure=>have:=HC.out;simp[intOf];omega
  ·have x2:¬ (k:Int)<(m:Int):=by omega
   clear hk ck hB
   go_wp2_with fail
   go_ret
   exact⟨rfl,HB.out⟩
structure Jj (w W:World) (P2 P3:Nat) (o1 o2 o3:Option Addr) (m k1 k2 k3 b1 b2 b3:Nat) (Z:List Nn) (c f:Int):Prop where
 bf:Below w.heap.size w W
 p2:w.heap.size<=P2
 p3:P2<=P3
 p4:P3<=W.heap.size
 r1:jE W w.heap.size o1 m k1 Z
 r2:jE W P2 o2 m k2 Z
 r3:jE W P3 o3 m k3 Z
 u2:∀j,(Value.slice o2 m k2).ownBlock=some j->j<P3
 f1:W.heap[b1]? = some (.cells #[.int .i64 c,.int .i64 f] 25 (0,0))
 f2:W.heap[b2]? = some (.cells #[.int .i64 c,.int .i64 f] 25 (0,0))
 f3:W.heap[b3]? = some (.cells #[.int .i64 c,.int .i64 f] 25 (0,0))
section
variable {w W W':World} {P2 P3:Nat} {o1 o2 o3:Option Addr} {m k1 k2 k3 b1 b2 b3:Nat} {Z:List Nn} {c f:Int}
theorem Jj.go(h:Jj w W P2 P3 o1 o2 o3 m k1 k2 k3 b1 b2 b3 Z c f)(hb:Below W.heap.size W W'):Jj w W' P2 P3 o1 o2 o3 m k1 k2 k3 b1 b2 b3 Z c f:=
 ⟨h.bf.trans (hb.mono h.bf.size),h.p2,h.p3,eU h.p4 hb.size,h.r1.below hb,h.r2.below hb,h.r3.below hb,h.u2,aF h.f1 hb,aF h.f2 hb,aF h.f3 hb⟩
theorem Jj.qs(h:Jj w W P2 P3 o1 o2 o3 m k1 k2 k3 b1 b2 b3 Z c f):W.cell? ⟨b1,0,none⟩=some (.int .i64 c)/\W.cell? ⟨b1,1,none⟩=some (.int .i64 f)/\W.cell? ⟨b2,0,none⟩=some (.int .i64 c)/\W.cell? ⟨b2,1,none⟩=some (.int .i64 f)/\W.cell? ⟨b3,0,none⟩=some (.int .i64 c)/\W.cell? ⟨b3,1,none⟩=some (.int .i64 f):=
 ⟨aA h.f1 0,aA h.f1 1,aA h.f2 0,aA h.f2 1,aA h.f3 0,aA h.f3 1⟩
end
theorem QF(k:Nat)(h:k<=100000):IntKind.i64.wrap ((k:Int)+1)=((k+1:Nat):Int)/\wrap64 ((k:Int)+1)=((k+1:Nat):Int):=by
 refine⟨?_,?_⟩
 ·rw[gy];omega
 ·unfold wrap64;omega
theorem OV(K:Int)(m j:Nat)(h:j<(ay m (nK K)).length):(ay m (nK K))[j]=nK K:=by simp
theorem ni(s:ByteArray)(hs:s.size<=6000)(Z:List Nn)(m:Nat)(hZ:Z.length=m)(QU:m<=65538)(c f:Int)(w:World)(ht:Tabs w)(hm:MarksIn w)
  (c1:∀w,Calls prog 4 #[.string s] w λe w'=>Below w.heap.size w w'/\∃o cap,e=.returned (.tuple #[.slice o m cap,.agg #[.int .i64 c,.int .i64 f]])/\jE w' w.heap.size o m cap Z)
  (c2:∀w,Tabs w->MarksIn w->Calls prog 5 #[.string s] w λe w'=>Below w.heap.size w w'/\∃o cap,e=.returned (.tuple #[.slice o m cap,.agg #[.int .i64 c,.int .i64 f]])/\jE w' w.heap.size o m cap Z) :
  Calls prog 3 #[.string s] w λe w'=>e=.returned (.bool true)/\Below w.heap.size w w':=by
 have c':¬ (s.size:Int)>6000:=by omega
 have U3:=hid (aY ht hm)
 have HZ:=hid (aY hZ (show m<=100000 by omega))
 have Jk:=hid QU
 obtain⟨i0,hi,hz0,hz1,hz2⟩:=info_parts Ew
 clear ht hm hs hZ QU
 go_enter func3,ntmps3
 go_upto_region 4 with(go_at_call 4;(with_reducible refine(c1 _).mono ?_);rintro e wn ⟨hb,o1,k1,rfl,r1⟩)
 have f1:=bY wn (Obj.cells #[Value.int .i64 c,Value.int .i64 f] 25)
 have bA:=(aH _ wn).alloc (aL _) (Obj.cells #[Value.int .i64 c,Value.int .i64 f] 25)
 replace r1:=r1.below bA
 have hS:Below w.heap.size w (wn.alloc (Obj.cells #[Value.int .i64 c,Value.int .i64 f] 25)):=hb.trans (bA.mono hb.size)
 clear hb bA
 generalize bO wn _=W1 at *
 generalize wn.heap.size=b1 at *
 have z1:=hS.size
 go_upto_region 5 with(go_at_call 5;(with_reducible refine(c2 _ (U3.out.1.below hS) (U3.out.2.below hS)).mono ?_);rintro e wn ⟨hb,o2,k2,rfl,r2⟩)
 replace f1:=aF f1 hb
 replace r1:=r1.below hb
 replace hS:=hS.trans (hb.mono hS.size)
 have z2:=hb.size
 clear hb
 have f2:=bY wn (Obj.cells #[Value.int .i64 c,Value.int .i64 f] 25)
 have bA:=(aH _ wn).alloc (aL _) (Obj.cells #[Value.int .i64 c,Value.int .i64 f] 25)
 replace f1:=aF f1 bA
 replace r1:=r1.below bA
 replace r2:=r2.below bA
 replace hS:=hS.trans (bA.mono hS.size)
 replace z2:W1.heap.size<=(bO wn (Obj.cells #[Value.int .i64 c,Value.int .i64 f] 25)).heap.size:=by rw[dR];omega
 clear bA
 generalize bO wn _=W2 at *
 generalize wn.heap.size=b2 at *
 have u2:∀j,(Value.slice o2 m k2).ownBlock=some j->j<W2.heap.size:=λj e=>(r2.lt j e).2
 go_upto_region 6 with(go_at_call 5;(with_reducible refine(c2 _ (U3.out.1.below hS) (U3.out.2.below hS)).mono ?_);rintro e wn ⟨hb,o3,k3,rfl,r3⟩)
 replace f1:=aF f1 hb
 replace f2:=aF f2 hb
 replace r1:=r1.below hb
 replace r2:=r2.below hb
 replace hS:=hS.trans (hb.mono hS.size)
 have z3:=hb.size
 clear hb
 have f3:=bY wn (Obj.cells #[Value.int .i64 c,Value.int .i64 f] 25)
 have bA:=(aH _ wn).alloc (aL _) (Obj.cells #[Value.int .i64 c,Value.int .i64 f] 25)
 replace f1:=aF f1 bA
 replace f2:=aF f2 bA
 replace r1:=r1.below bA
 replace r2:=r2.below bA
 replace r3:=r3.below bA
 replace hS:=hS.trans (bA.mono hS.size)
 replace z3:W2.heap.size<=(bO wn (Obj.cells #[Value.int .i64 c,Value.int .i64 f] 25)).heap.size:=by rw[dR];omega
 clear bA
 generalize bO wn _=W3 at *
 generalize wn.heap.size=b3 at *
 have hT:Jj w W3 W1.heap.size W2.heap.size o1 o2 o3 m k1 k2 k3 b1 b2 b3 Z c f:=⟨hS,z1,z2,z3,r1,r2,r3,u2,f1,f2,f3⟩
 clear z1 z2 z3 r1 r2 r3 u2 f1 f2 f3 c1 c2 hS
 (obtain⟨q0,q1,q2,q3,q4,q5⟩:=hT.qs)
 generalize W1.heap.size=P2 at *
 generalize W2.heap.size=P3 at *
 go_wp2_with ((with_reducible (apply Calls.mono;first|exact Ki _ _ _ _ _ _ _ _ Z HZ.out.1 HZ.out.2 hT.r2 hT.r1|exact Ki _ _ _ _ _ _ _ _ Z HZ.out.1 HZ.out.2 hT.r3 hT.r1));rintro e wn ⟨rfl,hb⟩;(replace hT:=hT.go hb);clear hb q0 q1 q2 q3 q4 q5;(obtain⟨q0,q1,q2,q3,q4,q5⟩:=hT.qs))
 clear q0 q1 q2 q3 q4 q5
 have HT:=hid (Df.mk hT.bf hT.p2 hT.p3 hT.p4 hT.r2 hT.r3 hT.u2)
 clear hT
 go_loopw [9] (λi wr=>∃k:Nat,i=.int .i64 k/\k<=m/\Df w wr P2 P3 o2 o3 m k2 k3 (Dg 201 k Z) (Dg 202 k Z)) (λi _=>m-(intOf i).toNat)
 case atStart=>exact⟨0,rfl,Nat.zero_le _,by rw[Cg,Cg];exact HT.out⟩
 case round=>
  obtain⟨k,rfl,hk,hT⟩:=hrel
  obtain⟨v1,v2⟩:=QF k (by have:=HZ.out;omega)
  clear HT
  by_cases ck:k<m
  ·obtain⟨g2,rfl⟩:=hT.r2.form (by omega)
   obtain⟨g3,rfl⟩:=hT.r3.form (by omega)
   have kz:k<Z.length:=by rw[HZ.out.1];exact ck
   have l2:=GQ 201 k Z (by omega)
   have l3:=GQ 202 k Z (by omega)
   obtain⟨a0,a1,a2,a3,a4,a5⟩:=hT.r2.at (l2.trans HZ.out.1) k (by rw[l2];exact kz)
   obtain⟨d0,d1,d2,d3,d4,d5⟩:=hT.r3.at (l3.trans HZ.out.1) k (by rw[l3];exact kz)
   rw[Lc 201 k Z kz] at a0 a1 a2 a3 a4 a5
   rw[Lc 202 k Z kz] at d0 d1 d2 d3 d4 d5
   have HKZ:=hid kz
   generalize Z[k]=y at *
   have x2:(k:Int)<(m:Int):=by omega
   have x0:(0:Int)<=(k:Int):=by omega
   have HC:=hid ck
   have n1:¬g3=g2:=by have:=(hT.r3.lt g3 rfl).1;have:=hT.u2 g2 rfl;omega
   have n2:¬g2=g3:=λe=>n1 e.symm
   have z2:=hT.r2.frozenAt
   have z3:=hT.r3.frozenAt
   have HR:=hid (hT.write k (nK 201) (nK 202))
   clear hT hk ck l2 l3 kz
   go_wp2_with fail
   go_roundw
   case rel=>
    have:=HR.out
    rw[GN 201 k Z HKZ.out,GN 202 k Z HKZ.out] at this
    exact⟨k+1,by go_num,HC.out,this⟩
   case measure=>have:=HC.out;simp[intOf];omega
  ·have ek:k=m:=by omega
   subst ek
   have x2:¬ (k:Int)<(k:Int):=by omega
   have VN:Dg 201 k Z=ay k (nK 201):=by have:=GR 201 Z;rw[HZ.out.1] at this;exact this
   have VL:Dg 202 k Z=ay k (nK 202):=by have:=GR 202 Z;rw[HZ.out.1] at this;exact this
   rw[VN,VL] at hT
   have BN:=hid hT
   clear hk ck v1 v2 hT VN VL
   go_wp2_with (at_builtin;refine wpList_append_own_at _ rfl _ _ 22 rfl P2 31 i0 _ 6 56 Kq hi hz0 hz1 hz2 rfl (by decide) _ _ _ rfl (BN.out.r2.alloc _) ⟨_,0,none⟩ 1 1 [.int .i64 201,.int .i64 0,.int .i64 0,.string ⟨#[]⟩,.int .i64 0,.int .u64 0] rfl rfl ?c1 ?c2 ?c3 ?c4 ?c5 ?_)
   case c2=>first|(intro u hu;simp at hu;rcases hu with rfl|rfl|rfl|rfl|rfl|rfl <;> rfl)|(simp;done)|exact⟨rfl,rfl,rfl,rfl,rfl,rfl⟩|rfl|decide
   case c3=>have:=HZ.out.2;unfold maxLen;omega
   case c4=>have:=HZ.out.2;omega
   case c5=>have:=BN.out.p3;have:=BN.out.p4;simp;omega
   ·intro v' w1 hown' hgrow _ hblk
    obtain⟨o8,c8,hv8⟩:=aI hown'
    subst hv8
    have R8:jE w1 P2 o8 (k+1) c8 (ay (k+1) (nK 201)):=by unfold jE;rw[yP];exact hown'
    have QZ:It.bL (λj=>(Value.slice o2 k k2).ownBlock=some j) wr w1:=(It.bL.of_below ((aH _ wr).alloc (aL _) _)).trans' ((It.bL.refl _ _).grown hgrow (λj e=>.inl e))
    have hB1:Below w.heap.size w w1:=(BN.out.bf.alloc BN.out.bf.size _).grown hgrow (by have:=BN.out.bf.size;simp;omega) (λj e=>by have:=(BN.out.r2.lt j e).1;have:=BN.out.p2;omega)
    have R3:jE w1 P3 o3 k k3 (ay k (nK 202)):=BN.out.r3.on (λj e=>QZ.block j (BN.out.r3.lt j e).2 (λe2=>by have:=BN.out.u2 j e2;have:=(BN.out.r3.lt j e).1;omega))
    have hne:∀j,(Value.slice o8 (k+1) c8).ownBlock=some j->¬ (Value.slice o3 k k3).ownBlock=some j:=by
     intro j e e3
     have l3:=BN.out.r3.lt j e3
     rcases hblk with UU|UU
     ·rw[UU] at e
      have:=BN.out.u2 j e
      omega
     ·rw[UU] at e
      injection e with e
      omega
    have hz1':P3<=w1.heap.size:=by have:=BN.out.p4;have:=QZ.size;omega
    have HR8:=hid R8
    have HR3:=hid R3
    have HB1:=hid hB1
    have Jr:=hid hne
    have HZ1:=hid hz1'
    have HW3:=hid (show w.heap.size<=P3 by have:=BN.out.p2;have:=BN.out.p3;omega)
    clear R8 R3 hB1 hne hz1' QZ hblk hgrow hown' BN
    go_wp2_with (at_builtin;refine wpList_append_own_at _ rfl _ _ 22 rfl P3 31 i0 _ 6 56 Kq hi hz0 hz1 hz2 rfl (by decide) _ _ _ rfl (HR3.out.alloc _) ⟨_,0,none⟩ 1 1 [.int .i64 202,.int .i64 0,.int .i64 0,.string ⟨#[]⟩,.int .i64 0,.int .u64 0] rfl rfl ?d1 ?d2 ?d3 ?d4 ?d5 ?_)
    case d1=>
     intro j u hj
     match j,hj with
     | 0,hj=>simp at hj;subst hj;simp[Addr.add]
     | 1,hj=>simp at hj;subst hj;simp[Addr.add]
     | 2,hj=>simp at hj;subst hj;simp[Addr.add]
     | 3,hj=>simp at hj;subst hj;simp[Addr.add]
     | 4,hj=>simp at hj;subst hj;simp[Addr.add]
     | 5,hj=>simp at hj;subst hj;simp[Addr.add]
    case d2=>first|(intro u hu;simp at hu;rcases hu with rfl|rfl|rfl|rfl|rfl|rfl <;> rfl)|(simp;done)|exact⟨rfl,rfl,rfl,rfl,rfl,rfl⟩|rfl|decide
    case d3=>have:=HZ.out.2;unfold maxLen;omega
    case d4=>have:=HZ.out.2;omega
    case d5=>have:=HZ1.out;simp;omega
    ·intro v'' w2 hown2 hgrow2 _ _
     obtain⟨o9,c9,hv9⟩:=aI hown2
     subst hv9
     have R9:jE w2 P3 o9 (k+1) c9 (ay (k+1) (nK 202)):=by unfold jE;rw[yP];exact hown2
     have mE:It.bL (λj=>(Value.slice o3 k k3).ownBlock=some j) w1 w2:=(It.bL.of_below ((aH _ w1).alloc (aL _) _)).trans' ((It.bL.refl _ _).grown hgrow2 (λj e=>.inl e))
     have hB2:Below w.heap.size w w2:=(HB1.out.alloc HB1.out.size _).grown hgrow2 (by have:=HB1.out.size;simp;omega) (λj e=>by have:=(HR3.out.lt j e).1;have:=HW3.out;omega)
     have R8:jE w2 P2 o8 (k+1) c8 (ay (k+1) (nK 201)):=HR8.out.on (λj e=>mE.block j (HR8.out.lt j e).2 (Jr.out j e))
     have H2:=hid (aY hB2 (aY R8 R9))
     clear R9 R8 hB2 mE hgrow2 hown2 HR8 HR3 HB1 Jr HZ1 HW3
     obtain⟨M,hM⟩:∃M,k+1=M:=⟨_,rfl⟩
     rw[hM] at H2 ⊢
     have HM:=hid (show M<=100001 by have:=HZ.out;omega)
     have HM0:=hid (show M<=65539 by have:=Jk.out;omega)
     clear hM
     go_wp2_with fail
     go_loopw [10] (λi wq=>∃j:Nat,i=.int .i64 j/\j<=M/\wq=w2) (λi _=>M-(intOf i).toNat)
     case atStart=>exact⟨0,rfl,by omega,rfl⟩
     case round=>
      obtain⟨j,rfl,hj,hq⟩:=hrel
      have hq':=hq.symm
      subst hq'
      clear hq
      obtain⟨vj,vj2⟩:=QF j (by have:=HM0.out;omega)
      by_cases cj:j<M
      ·obtain⟨g8,rfl⟩:=H2.out.2.1.form (by omega)
       obtain⟨g9,rfl⟩:=H2.out.2.2.form (by omega)
       have a0:=(H2.out.2.1.at (by simp) j (by simpa using cj)).1
       have b0:=(H2.out.2.2.at (by simp) j (by simpa using cj)).1
       rw[OV] at a0 b0
       have a0':w2.cell? ⟨g8,j*6,none⟩=some (.int .i64 201):=a0
       have b0':w2.cell? ⟨g9,j*6,none⟩=some (.int .i64 202):=b0
       have x2:(j:Int)<(M:Int):=by omega
       have x0:(0:Int)<=(j:Int):=by omega
       have HC:=hid cj
       clear a0 b0 cj hj
       go_wp2
       go_roundw
       case rel=>exact⟨j+1,by go_num,HC.out,by first|rfl|trivial⟩
       case measure=>have:=HC.out;simp[intOf];omega
      ·have x2:¬ (j:Int)<(M:Int):=by omega
       have hbw:=H2.out.1
       clear cj hj vj vj2 H2
       go_wp2_with (go_at_call 7;refine(Jf _ (U3.out.1.below hbw) (U3.out.2.below hbw)).mono ?_;rintro e wn ⟨rfl,hb⟩)
       go_ret
       exact⟨rfl,hbw.trans (hb.mono hbw.size)⟩
theorem uZ(s:ByteArray)(hs:6000<s.size)(w:World):Calls prog 3 #[.string s] w λe w'=>e=.returned (.bool true)/\Below w.heap.size w w':=by
 have c':(s.size:Int)>6000:=by omega
 clear hs
 go_enter func3,ntmps3
 go_wp2
 go_ret
 exact⟨rfl,aH _ _⟩
theorem sP{l:List UInt8}{r r':Rs Fo}(h:Ends l r)(h':Ends l r'):r=r':=by
 obtain⟨n,h⟩:=h
 obtain⟨m,h'⟩:=h'
 exact Qw h h'
theorem O7(s:ByteArray)(hs:s.size<=6000){f:jv}(h:Ends s.data.toList (.error f))(w:World):Calls prog 4 #[.string s] w λe w'=>Below w.heap.size w w'/\∃o cap,e=.returned (.tuple #[.slice o 0 cap,.agg #[.int .i64 f.1,.int .i64 f.2]])/\jE w' w.heap.size o 0 cap []:=by
 refine(GI s hs w).mono ?_
 rintro e w' ⟨hb,hq⟩
 refine⟨hb,?_⟩
 rcases hq with⟨g,hg,rfl⟩|⟨fo,s',r,hg,_,_⟩
 ·have:=sP h hg
  cases this
  exact⟨none,0,rfl,rfl,.inl ⟨rfl,rfl⟩⟩
 ·have:=sP h hg
  cases this
theorem La(s:ByteArray)(hs:s.size<=6000){fo:Fo}{s':Cs}(h:Ends s.data.toList (.ok (fo,s')))(w:World):Calls prog 4 #[.string s] w λe w'=>Below w.heap.size w w'/\∃o cap,e=.returned (.tuple #[.slice o (dM fo).length cap,.agg #[.int .i64 0,.int .i64 0]])/\jE w' w.heap.size o (dM fo).length cap (dM fo):=by
 refine(GI s hs w).mono ?_
 rintro e w' ⟨hb,hq⟩
 refine⟨hb,?_⟩
 rcases hq with⟨g,hg,rfl⟩|⟨fo2,s2,r,hg,rfl,ho⟩
 ·have:=sP h hg
  cases this
 ·have:=sP h hg
  cases this
  obtain⟨o,cap,rfl⟩:=aI ho
  exact⟨o,cap,rfl,ho⟩
theorem treeParses_walk(s:ByteArray)(ws:s.size<=maxLen)(w:World)(ht:Tabs w)(hm:MarksIn w):Calls prog 3 #[.string s] w λe w'=>e=.returned (.bool true)/\Below w.heap.size w w':=by
 by_cases c:6000<s.size
 ·exact uZ s c w
 ·have hs:s.size<=6000:=by omega
  obtain⟨r,hr⟩:=ends s.data.toList
  cases r with
  | error f=>
   refine ni s hs [] 0 rfl (by omega) f.1 f.2 w ht hm (λw=>O7 s hs hr w) (λw ht hm=>?_)
   refine(Ie s (by omega) w ht hm hr).mono ?_
   rintro e w' ⟨rfl,hb⟩
   exact⟨hb,none,0,rfl,rfl,.inl ⟨rfl,rfl⟩⟩
  | ok q=>
   obtain⟨fo,s'⟩:=q
   refine ni s hs (dM fo) (dM fo).length rfl hr.few 0 0 w ht hm (λw=>La s hs hr w) (λw ht hm=>?_)
   refine(wL s (by omega) w ht hm hr).mono ?_
   rintro e w' ⟨r,rfl,hb,ho⟩
   obtain⟨o,cap,rfl⟩:=aI ho
   exact⟨hb,o,cap,rfl,ho⟩
end Go.Proofs.YtgchnkgolclmgaaGreatDoor.W.Tr
namespace Go.Proofs.YtgchnkgolclmgaaGreatDoor.W
open Go.ChangeShapes Go.WideShapes Go.RowKit Go.Shelf
theorem treeParses_walk(s:ByteArray)(ws:s.size<=maxLen)(w:World)(ht:Tabs w)(hm:MarksIn w):Calls Tryz.prog 3 #[.string s] w fun e w'=>e=.returned (.bool true)/\Below w.heap.size w w':=Tr.treeParses_walk s ws w ht hm
end Go.Proofs.YtgchnkgolclmgaaGreatDoor.W
