import Derived.Test.YtgchnkgolclmgaaGreatDoorJJ
set_option maxRecDepth 1000000
set_option maxHeartbeats 8000000
namespace Go.Proofs.YtgchnkgolclmgaaGreatDoor.W.Tr
abbrev Se:=Except jv Cs
def iJ(s:Cs):Se:=match look s with
 | .error e=>.error e
 | .ok _=>.ok s
def qA(s:Cs):Yd:=s.r.headD ⟨⟨0,⟨#[]⟩,0,0⟩,0,0,0⟩
def bR(w:ByteArray):Se->Bool
 | .error _=>false
 | .ok s=>aG (qA s).t=w
def bJ:Se->Se
 | .error e=>.error e
 | .ok s=>iJ (behind (qA s) s)
def jI:Se->Se
 | .error e=>.error e
 | .ok s=>.error (70,(qA s).a)
def aN(w:ByteArray)(st:Se):Se:=if bR w st=true then bJ st else jI st
def ow(k:Int):Se->Bool
 | .error _=>false
 | .ok s=>(qA s).t.kind=k
def bP(st:Se):Se:=if ow 1 st=true then bJ st else jI st
def mG:Se->Prop
 | .error _=>True
 | .ok s=>∃y,look s=.ok y
theorem dS{s:Cs}{y:Yd}(h:look s=.ok y):qA s=y/\∃l,s.r=y::l:=by
 unfold look at h
 unfold qA
 split at h
 ·cases h
 ·rename_i z l e
  rw[e]
  split at h
  ·split at h
   ·cases h
   ·cases h
    exact⟨rfl,_,rfl⟩
  ·cases h
theorem aj{s:Cs}{y:Yd}(h:look s=.ok y):iJ s=.ok s:=by unfold iJ;rw[h]
theorem fT{s:Cs}{e:jv}(h:look s=.error e):iJ s=.error e:=by unfold iJ;rw[h]
def UK{α:Type}(st':Se)(a? : Option α):Rs α->Prop
 | .error e=>st'=.error e
 | .ok (a,s')=>st'=iJ s'/\((∃s'',st'=.ok s'')->a? = some a)
def aO(p:Nt):Se->Se->Option Fo->Prop
 | .error e,st',_=>st'=.error e
 | .ok s,st',fo?=>∃n r,P n p s=some r/\UK st' fo? r
theorem eu{s:Cs}{e:jv}(h:look s=.error e):dW s=some (.error e):=by unfold dW;rw[h]
theorem cK{α β:Type}{x:Pm α}{f:α->Pm β}{s:Cs}{e:jv}(h:x s=some (.error e)):(x.bind f) s=some (.error e):=by unfold Pm.bind;rw[h]
theorem BX{s:Cs}{e:jv}(w:ByteArray)(h:look s=.error e):dw w s=some (.error e):=cK (eu h)
theorem Co{s:Cs}{e:jv}(h:look s=.error e):kX s=some (.error e):=cK (eu h)
section
variable {s:Cs} {e:jv} (h:look s=.error e)
include h
theorem TL:∀ (j k:Nat),7<=k+j->∀m,j+2<=m->P m (.bn k) s=some (.error e)
 | 0,k,hk,m+1,hm=>by
  unfold P
  rw[if_pos (by omega)]
  match m,hm with
  | m+1,_=>
   unfold P
   exact cK (eu h)
 | j+1,k,hk,m+1,hm=>by
  unfold P
  split
  ·match m,hm with
   | m+1,_=>
    unfold P
    exact cK (eu h)
  ·exact cK (TL j (k+1) (by omega) m (by omega))
theorem WQ:∀m,1<=m->P m .ng s=some (.error e)
 | m+1,_=>by unfold P;exact cK (eu h)
theorem WS:∀m,2<=m->P m .cj s=some (.error e)
 | m+1,hm=>by unfold P;exact cK (WQ h m (by omega))
theorem WR:∀m,3<=m->P m .ex s=some (.error e)
 | m+1,hm=>by unfold P;exact cK (WS h m (by omega))
theorem Qv(p:Nt):∀m,20<=m->P m p s=some (.error e):=by
 intro m hm
 cases p with
 | bn k=>exact TL h 7 k (by omega) m (by omega)
 | ex=>exact WR h m (by omega)
 | cj=>exact WS h m (by omega)
 | ng=>exact WQ h m (by omega)
 | cm=>match m,hm with
  | m+1,hm=>unfold P;exact cK (TL h 7 1 (by omega) m (by omega))
 | po=>match m,hm with
  | m+2,hm=>unfold P;refine cK ?_;unfold P;exact cK (eu h)
 | pl=>match m,hm with
  | m+1,hm=>unfold P;exact cK (WR h m (by omega))
 | _=>match m,hm with
  | m+1,hm=>
   unfold P
   first
   | exact cK (eu h)
   | exact cK (BX _ h)
   | exact cK (Co h)
   | exact cK (cK (eu h))
   | exact cK (by unfold eG;rw[h])
end
theorem aO.bad{p:Nt}{e:jv}{fo? : Option Fo}:aO p (.error e) (.error e) fo?:=rfl
theorem aO.now{p:Nt}{s:Cs}{st:Se}{fo? : Option Fo}(h:aO p (iJ s) st fo?):∃n r,P n p s=some r/\UK st fo? r:=by
 cases hl:look s with
 | error e=>
  rw[fT hl] at h
  exact⟨20,_,Qv hl p 20 (Nat.le_refl _),h⟩
 | ok y=>
  rw[aj hl] at h
  exact h
def aP{α:Type}(F:Nat->Pm α)(s:Cs)(st':Se)(a? : Option α):Prop:=
 ∃n r,(∀m,n<=m->F m s=some r)/\UK st' a? r
theorem aP.Lg{p:Nt}{s:Cs}{st:Se}{fo? : Option Fo}(h:aO p (iJ s) st fo?):aP (λm=>P m p) s st fo?:=by
 obtain⟨n,r,h1,h2⟩:=h.now
 exact⟨n,r,λm hm=>F4 hm p s r h1,h2⟩
theorem aP.toP{p:Nt}{s:Cs}{st:Se}{fo? : Option Fo}(h:aP (λm=>P m p) s st fo?):aO p (.ok s) st fo?:=by
 obtain⟨n,r,h1,h2⟩:=h
 exact⟨n,r,h1 n (Nat.le_refl _),h2⟩
theorem aP.step{p:Nt}{s:Cs}{st:Se}{fo? : Option Fo}(h:aP (λm=>P (m+1) p) s st fo?):aP (λm=>P m p) s st fo?:=by
 obtain⟨n,r,h1,h2⟩:=h
 refine⟨n+1,r,λm hm=>?_,h2⟩
 match m,hm with
 | m+1,hm=>exact h1 m (by omega)
theorem aP.pure{α:Type}(a:α)(s:Cs):aP (λ_=>Pm.pure a) s (iJ s) (some a):=⟨0,_,λ_ _=>rfl,rfl,λ_=>rfl⟩
theorem aP.fail{α:Type}(s:Cs)(e:jv)(a? : Option α):aP (λ_=>(lN e:Pm α)) s (.error e) a?:=⟨0,.error e,λ_ _=>rfl,rfl⟩
theorem aP.bind{α β:Type}{F:Nat->Pm α}{G:α->Nat->Pm β}{s:Cs}{st1 st2:Se}{a? : Option α}{b? : Option β}(h:aP F s st1 a?)
  (g:∀a s',st1=iJ s'->((∃s'',st1=.ok s'')->a? = some a)->aP (G a) s' st2 b?) (hb:∀e,st1=.error e->st2=.error e) :
  aP (λm=>(F m).bind λa=>G a m) s st2 b?:=by
 obtain⟨n,r,h1,h2⟩:=h
 match r,h1,h2 with
 | .error e,h1,h2=>exact⟨n,.error e,λm hm=>cK (h1 m hm),hb e h2⟩
 | .ok (a,s'),h1,⟨h2,h3⟩=>
  obtain⟨k,q,g1,g2⟩:=g a s' h2 h3
  refine⟨max n k,q,λm hm=>?_,g2⟩
  show Pm.bind (F m) (λa=>G a m) s=some q
  unfold Pm.bind
  rw[h1 m (by omega)]
  exact g1 m (by omega)
theorem aP.look{α:Type}{G:Yd->Nat->Pm α}{s:Cs}{y:Yd}{st:Se}{a? : Option α}(h:look s=.ok y)(g:aP (G y) s st a?):aP (λm=>dW.bind λy=>G y m) s st a?:=by
 obtain⟨n,r,h1,h2⟩:=g
 refine⟨n,r,λm hm=>?_,h2⟩
 show Pm.bind dW (λy=>G y m) s=some r
 unfold Pm.bind dW
 rw[h]
 exact h1 m hm
theorem aP.take{α:Type}{G:Yd->Nat->Pm α}{s:Cs}{y:Yd}{st:Se}{a? : Option α}(h:W.Tr.look s=.ok y)(g:aP (G y) (behind y s) st a?):aP (λm=>eG.bind λy=>G y m) s st a?:=by
 obtain⟨n,r,h1,h2⟩:=g
 refine⟨n,r,λm hm=>?_,h2⟩
 show Pm.bind eG (λy=>G y m) s=some r
 unfold Pm.bind eG
 rw[h]
 exact h1 m hm
theorem aP.ite{α:Type}{c:Prop}[Decidable c]{F G:Nat->Pm α}{s:Cs}{st:Se}{a? : Option α}(h:c->aP F s st a?)(g:¬c->aP G s st a?):aP (λm=>if c then F m else G m) s st a?:=by
 by_cases e:c
 ·simpa only[if_pos e] using h e
 ·simpa only[if_neg e] using g e
theorem ak{s:Cs}{y:Yd}{w:ByteArray}(h:look s=.ok y):(bR w (.ok s)=true)↔aG y.t=w:=by
 show (decide (aG (qA s).t=w))=true↔_
 rw[(dS h).1]
 simp
theorem gJ{s:Cs}{y:Yd}(h:look s=.ok y):bJ (.ok s)=iJ (behind y s):=by
 show iJ (behind (qA s) s)=_
 rw[(dS h).1]
theorem P6{s:Cs}{y:Yd}{l:Fo}(hs:look s=.ok y)(hw:bR uP (.ok s)=false):aO (.xH l) (.ok s) (.ok s) (some l):=by
 refine aP.toP (aP.step ?_)
 simp only[P]
 refine aP.look hs (aP.ite (λq=>?_) (λn=>?_))
 ·rw[(ak hs).2 q] at hw
  cases hw
 ·have:=aP.pure l s
  rwa [aj hs] at this
open Fo
def mH:Se->Option Yd
 | .error _=>none
 | .ok s=>some (qA s)
theorem sF{s:Cs}{y:Yd}(h:look s=.ok y):dW s=some (.ok (y,s)):=by unfold dW;rw[h]
theorem dB(w:ByteArray)(e:jv):aN w (.error e)=.error e:=rfl
theorem nA(e:jv):bP (.error e)=.error e:=rfl
theorem aO.errs{p:Nt}{st st':Se}{o:Option Fo}(h:aO p st st' o):∀e,st=.error e->st'=.error e:=by
 intro e q
 subst q
 exact h
def jL(p:Fo->Nt)(l? : Option Fo)(st st':Se)(out? : Option Fo):Prop:=∀l,((∃s,st=.ok s)->l? = some l)->aO (p l) st st' out?
theorem jL.errs{p:Fo->Nt}{l? : Option Fo}{st st':Se}{o:Option Fo}(h:jL p l? st st' o):∀e,st=.error e->st'=.error e:=by
 intro e q
 subst q
 exact h .nil (λ⟨_,q⟩=>by cases q)
theorem aP.rounds{F:Nat->Pm Fo}{p:Fo->Nt}{s:Cs}{st1 st2:Se}{l? o:Option Fo}(h:aP F s st1 l?)(g:jL p l? st1 st2 o):aP (λm=>(F m).bind λa=>P m (p a)) s st2 o:=by
 refine aP.bind h (λa s' e1 e2=>?_) g.errs
 have:=g a e2
 rw[e1] at this
 exact aP.Lg this
theorem aP.want(w:ByteArray)(s:Cs):aP (λ_=>dw w) s (aN w (iJ s)) (mH (iJ s)):=by
 cases hl:W.Tr.look s with
 | error e=>
  rw[fT hl]
  exact⟨0,.error e,λ_ _=>BX w hl,rfl⟩
 | ok y=>
  rw[aj hl]
  have hy:=(dS hl).1
  by_cases q:aG y.t=w
  ·refine⟨0,.ok (y,behind y s),λ_ _=>?_,?_,λ_=>?_⟩
   ·show Pm.bind dW (λy=>if aG y.t=w then eG else lN (70,y.a)) s=_
    unfold Pm.bind
    rw[sF hl]
    show (if aG y.t=w then eG else lN (70,y.a)) s=_
    rw[if_pos q]
    unfold eG
    rw[hl]
   ·unfold aN
    rw[if_pos ((ak hl).2 q),gJ hl]
   ·show some (qA s)=some y
    rw[hy]
  ·refine⟨0,.error (70,y.a),λ_ _=>?_,?_⟩
   ·show Pm.bind dW (λy=>if aG y.t=w then eG else lN (70,y.a)) s=_
    unfold Pm.bind
    rw[sF hl]
    show (if aG y.t=w then eG else lN (70,y.a)) s=_
    rw[if_neg q]
    rfl
   ·show aN w (.ok s)=_
    unfold aN
    rw[if_neg (λh=>q ((ak hl).1 h))]
    show Except.error (70,(qA s).a)=_
    rw[hy]
theorem aP.name(s:Cs):aP (λ_=>kX) s (bP (iJ s)) (mH (iJ s)):=by
 cases hl:W.Tr.look s with
 | error e=>
  rw[fT hl]
  exact⟨0,.error e,λ_ _=>Co hl,rfl⟩
 | ok y=>
  rw[aj hl]
  have hy:=(dS hl).1
  have hk:ow 1 (.ok s)=true↔y.t.kind=1:=by
   show (decide ((qA s).t.kind=1))=true↔_
   rw[hy]
   simp
  by_cases q:y.t.kind=1
  ·refine⟨0,.ok (y,behind y s),λ_ _=>?_,?_,λ_=>?_⟩
   ·show Pm.bind dW (λy=>if y.t.kind=1 then eG else lN (70,y.a)) s=_
    unfold Pm.bind
    rw[sF hl]
    show (if y.t.kind=1 then eG else lN (70,y.a)) s=_
    rw[if_pos q]
    unfold eG
    rw[hl]
   ·unfold bP
    rw[if_pos (hk.2 q),gJ hl]
   ·show some (qA s)=some y
    rw[hy]
  ·refine⟨0,.error (70,y.a),λ_ _=>?_,?_⟩
   ·show Pm.bind dW (λy=>if y.t.kind=1 then eG else lN (70,y.a)) s=_
    unfold Pm.bind
    rw[sF hl]
    show (if y.t.kind=1 then eG else lN (70,y.a)) s=_
    rw[if_neg q]
    rfl
   ·show bP (.ok s)=_
    unfold bP
    rw[if_neg (λh=>q (hk.1 h))]
    show Except.error (70,(qA s).a)=_
    rw[hy]
theorem WA{st st1 st2:Se}{l? o:Option Fo}(h:aO .cj st st1 l?)(g:jL .xB l? st1 st2 o)(hg:mG st):aO .ex st st2 o:=by
 cases st with
 | error e=>exact g.errs e (h.errs e rfl)
 | ok s=>
  obtain⟨y,hy⟩:=hg
  rw[<- aj hy] at h
  refine aP.toP (aP.step ?_)
  simp only[P]
  exact aP.rounds (aP.Lg h) g
theorem WV{st st1 st2:Se}{l? o:Option Fo}(h:aO .ng st st1 l?)(g:jL .xH l? st1 st2 o)(hg:mG st):aO .cj st st2 o:=by
 cases st with
 | error e=>exact g.errs e (h.errs e rfl)
 | ok s=>
  obtain⟨y,hy⟩:=hg
  rw[<- aj hy] at h
  refine aP.toP (aP.step ?_)
  simp only[P]
  exact aP.rounds (aP.Lg h) g
theorem aP.map{α β:Type}{F:Nat->Pm α}{s:Cs}{st:Se}{a? : Option α}(h:aP F s st a?)(g:α->β):aP (λm=>(F m).bind λa=>Pm.pure (g a)) s st (a?.map g):=by
 obtain⟨n,r,h1,h2⟩:=h
 match r,h1,h2 with
 | .error e,h1,h2=>exact⟨n,.error e,λm hm=>cK (h1 m hm),h2⟩
 | .ok (a,s'),h1,⟨h2,h3⟩=>
  refine⟨n,.ok (g a,s'),λm hm=>?_,h2,λq=>by rw[h3 q];rfl⟩
  show Pm.bind (F m) (λa=>Pm.pure (g a)) s=_
  unfold Pm.bind
  rw[h1 m hm]
  rfl
theorem aO.behind{p:Nt}{s:Cs}{y:Yd}{st:Se}{o:Option Fo}(hs:look s=.ok y)(h:aO p (bJ (.ok s)) st o):aP (λm=>P m p) (Tr.behind y s) st o:=by
 rw[gJ hs] at h
 exact aP.Lg h
section
variable {s:Cs} {y:Yd} {l:Fo} {st1 st2:Se} {r? o:Option Fo} (hs:look s=.ok y)
include hs
theorem TI(hw:bR Cw (.ok s)=true)(h1:aO .cj (bJ (.ok s)) st1 r?)(h2:jL (λr=>.xB (one (kT 18 y) (l.app r))) r? st1 st2 o):aO (.xB l) (.ok s) st2 o:=by
 refine aP.toP (aP.step ?_)
 simp only[P]
 refine aP.look hs (aP.ite (λ_=>?_) (λn=>absurd ((ak hs).1 hw) n))
 exact aP.take hs (aP.rounds (h1.behind hs) h2)
theorem PS(hw:bR Cw (.ok s)=false):aO (.xB l) (.ok s) (.ok s) (some l):=by
 refine aP.toP (aP.step ?_)
 simp only[P]
 refine aP.look hs (aP.ite (λq=>?_) (λn=>?_))
 ·rw[(ak hs).2 q] at hw
  cases hw
 ·have:=aP.pure l s
  rwa [aj hs] at this
theorem VQ(hw:bR zG (.ok s)=true)(h1:aO .ng (bJ (.ok s)) st1 r?):aO .ng (.ok s) st1 (r?.map (one (kT 20 y))):=by
 refine aP.toP (aP.step ?_)
 simp only[P]
 refine aP.look hs (aP.ite (λ_=>?_) (λn=>absurd ((ak hs).1 hw) n))
 exact aP.take hs (aP.map (h1.behind hs) _)
theorem SB(hw:bR zG (.ok s)=false)(h1:aO .cm (.ok s) st1 r?):aO .ng (.ok s) st1 r?:=by
 refine aP.toP (aP.step ?_)
 simp only[P]
 refine aP.look hs (aP.ite (λq=>?_) (λn=>?_))
 ·rw[(ak hs).2 q] at hw
  cases hw
 ·rw[<- aj hs] at h1
  exact aP.Lg h1
theorem TY{k:Nat}(hw:tight (aG y.t)=k)(h1:aO (.bn (k+1)) (bJ (.ok s)) st1 r?)(h2:jL (λr=>.xM k (one (jr 21 y) (l.app r))) r? st1 st2 o):aO (.xM k l) (.ok s) st2 o:=by
 refine aP.toP (aP.step ?_)
 simp only[P]
 refine aP.look hs (aP.ite (λ_=>?_) (λn=>absurd hw n))
 exact aP.take hs (aP.rounds (h1.behind hs) h2)
theorem P9{k:Nat}(hw:tight (aG y.t)≠k):aO (.xM k l) (.ok s) (.ok s) (some l):=by
 refine aP.toP (aP.step ?_)
 simp only[P]
 refine aP.look hs (aP.ite (λq=>absurd q hw) (λn=>?_))
 have:=aP.pure l s
 rwa [aj hs] at this
theorem QC(hw:aG y.t=Cy\/aG y.t=Ct)(h1:aO .un (bJ (.ok s)) st1 r?):aO .un (.ok s) st1 (r?.map (one (jr 22 y))):=by
 refine aP.toP (aP.step ?_)
 simp only[P]
 refine aP.look hs (aP.ite (λ_=>?_) (λn=>absurd hw n))
 exact aP.take hs (aP.map (h1.behind hs) _)
theorem RG(hw:¬ (aG y.t=Cy\/aG y.t=Ct))(h1:aO .po (.ok s) st1 r?):aO .un (.ok s) st1 r?:=by
 refine aP.toP (aP.step ?_)
 simp only[P]
 refine aP.look hs (aP.ite (λq=>absurd q hw) (λn=>?_))
 rw[<- aj hs] at h1
 exact aP.Lg h1
theorem Rk{gT:Se}(hw:bR oz (.ok s)=true)(h1:aO .ex (bJ (.ok s)) st1 r?)(h2:st2=aN zF st1)(h3:jL (λr=>.wI (one (kT 24 y) (l.app r))) r? st2 gT o):aO (.wI l) (.ok s) gT o:=by
 refine aP.toP (aP.step ?_)
 simp only[P]
 refine aP.look hs (aP.ite (λ_=>?_) (λn=>absurd ((ak hs).1 hw) n))
 refine aP.take hs (aP.bind (h1.behind hs) (λr s' e1 e2=>?_) (λe q=>h3.errs e (by rw[h2,q,dB])))
 refine aP.bind (aP.want zF s') (λz s2 e3 e4=>?_) (λe q=>h3.errs e (by rw[h2,e1,q]))
 rw[<- e1,<- h2] at e3
 have:=h3 r (λ⟨x,q⟩=>e2 ?_)
 ·rw[e3] at this
  exact aP.Lg this
 ·rw[h2] at q
  cases st1 with
  | error e=>cases q
  | ok s=>exact⟨s,rfl⟩
theorem O6(hw:bR oz (.ok s)=false):aO (.wI l) (.ok s) (.ok s) (some l):=by
 refine aP.toP (aP.step ?_)
 simp only[P]
 refine aP.look hs (aP.ite (λq=>?_) (λn=>?_))
 ·rw[(ak hs).2 q] at hw
  cases hw
 ·have:=aP.pure l s
  rwa [aj hs] at this
end
theorem WX{k:Nat}(hk:¬6<k){st st1 st2:Se}{l? o:Option Fo}(h:aO (.bn (k+1)) st st1 l?)(g:jL (.xM k) l? st1 st2 o)(hg:mG st):aO (.bn k) st st2 o:=by
 cases st with
 | error e=>exact g.errs e (h.errs e rfl)
 | ok s=>
  obtain⟨y,hy⟩:=hg
  rw[<- aj hy] at h
  refine aP.toP (aP.step ?_)
  simp only[P]
  refine aP.ite (λq=>absurd q hk) (λ_=>?_)
  exact aP.rounds (aP.Lg h) g
theorem TW{st st1:Se}{o:Option Fo}(h:aO .un st st1 o)(hg:mG st):aO (.bn 7) st st1 o:=by
 cases st with
 | error e=>exact h.errs e rfl
 | ok s=>
  obtain⟨y,hy⟩:=hg
  rw[<- aj hy] at h
  refine aP.toP (aP.step ?_)
  simp only[P]
  exact aP.ite (λ_=>aP.Lg h) (λn=>absurd (by omega) n)
theorem VA{st st1 st2:Se}{l? o:Option Fo}(h:aO .pr st st1 l?)(g:jL .wI l? st1 st2 o)(hg:mG st):aO .po st st2 o:=by
 cases st with
 | error e=>exact g.errs e (h.errs e rfl)
 | ok s=>
  obtain⟨y,hy⟩:=hg
  rw[<- aj hy] at h
  refine aP.toP (aP.step ?_)
  simp only[P]
  exact aP.rounds (aP.Lg h) g
theorem aP.iL{α:Type}{s:Cs}{st:Se}(a:α)(h:st=iJ s):aP (λ_=>Pm.pure a) s st (some a):=by
 rw[h]
 exact aP.pure a s
theorem aP.aN{s:Cs}{st:Se}(w:ByteArray)(h:st=iJ s):aP (λ_=>dw w) s (Tr.aN w st) (mH st):=by
 rw[h]
 exact aP.want w s
theorem aP.bP{s:Cs}{st:Se}(h:st=iJ s):aP (λ_=>kX) s (Tr.bP st) (mH st):=by
 rw[h]
 exact aP.name s
theorem aO.at{p:Nt}{s:Cs}{st st':Se}{o:Option Fo}(h:aO p st st' o)(e:st=iJ s):aP (λm=>P m p) s st' o:=by
 rw[e] at h
 exact aP.Lg h
theorem iB{s:Cs}{y:Yd}(hs:look s=.ok y):mH (.ok s)=some y:=by
 show some (qA s)=some y
 rw[(dS hs).1]
section
variable {s:Cs} {y:Yd} {l:Fo} {st1 st2:Se} {r? o:Option Fo} (hs:look s=.ok y)
include hs
theorem AA(hk:y.t.kind=4\/y.t.kind=5\/y.t.kind=6):aO .pr (.ok s) (bJ (.ok s)) (some (one (jr (if y.t.kind=4 then 26 else if y.t.kind=5 then 27 else 28) y) nil)):=by
 refine aP.toP (aP.step ?_)
 simp only[P]
 rw[gJ hs]
 refine aP.look hs (aP.ite (λq=>?_) (λn=>?_))
 ·rw[if_pos q]
  exact aP.take hs (aP.pure _ _)
 rw[if_neg n]
 refine aP.ite (λq=>?_) (λn2=>?_)
 ·rw[if_pos q]
  exact aP.take hs (aP.pure _ _)
 rw[if_neg n2]
 refine aP.ite (λq=>?_) (λn3=>?_)
 ·exact aP.take hs (aP.pure _ _)
 ·omega
theorem GA(hk:y.t.kind=1)(h:aO .nm (.ok s) st1 r?):aO .pr (.ok s) st1 r?:=by
 refine aP.toP (aP.step ?_)
 simp only[P]
 refine aP.look hs (aP.ite (λq=>by omega) (λn=>?_))
 refine aP.ite (λq=>by omega) (λn=>?_)
 refine aP.ite (λq=>by omega) (λn=>?_)
 exact aP.ite (λq=>h.at (aj hs).symm) (λn=>absurd hk n)
theorem vG(hk:y.t.kind=2)(h:aO .wd (.ok s) st1 r?):aO .pr (.ok s) st1 r?:=by
 refine aP.toP (aP.step ?_)
 simp only[P]
 refine aP.look hs (aP.ite (λq=>by omega) (λn=>?_))
 refine aP.ite (λq=>by omega) (λn=>?_)
 refine aP.ite (λq=>by omega) (λn=>?_)
 refine aP.ite (λq=>by omega) (λn=>?_)
 exact aP.ite (λq=>h.at (aj hs).symm) (λn=>absurd hk n)
theorem LP(hk:¬ (y.t.kind=1\/y.t.kind=2\/y.t.kind=4\/y.t.kind=5\/y.t.kind=6))(h1:st1=Tr.aN gH (.ok s)){gT:Se}(h2:aO .ex st1 st2 r?)(h3:gT=Tr.aN fM st2):aO .pr (.ok s) gT r?:=by
 refine aP.toP (aP.step ?_)
 simp only[P]
 refine aP.look hs (aP.ite (λq=>by omega) (λn=>?_))
 refine aP.ite (λq=>by omega) (λn=>?_)
 refine aP.ite (λq=>by omega) (λn=>?_)
 refine aP.ite (λq=>by omega) (λn=>?_)
 refine aP.ite (λq=>by omega) (λn=>?_)
 subst h3
 refine aP.bind (aP.aN gH (aj hs).symm) (λz s1 e1 _=>?_) (λe q=>by rw[h2.errs e (h1.trans q),dB])
 refine aP.bind (h2.at (h1.trans e1)) (λr s2 e2 a2=>?_) (λe q=>by rw[q,dB])
 refine aP.bind (aP.aN fM e2) (λz s3 e3 _=>?_) (λe q=>q)
 have:=aP.iL r e3
 obtain⟨n,q,g1,g2⟩:=this
 refine⟨n,q,g1,?_⟩
 match q,g1,g2 with
 | .error e,g1,g2=>exact g2
 | .ok (a,s'),g1,⟨g2,g3⟩=>
  refine⟨g2,λhx=>?_⟩
  rw[<- g3 hx]
  refine a2 ?_
  cases st2 with
  | error e=>obtain⟨x,hx⟩:=hx;cases hx
  | ok s=>exact⟨s,rfl⟩
end
theorem aP.same{α:Type}{F:Nat->Pm α}{s:Cs}{st:Se}{a? b? : Option α}(h:aP F s st a?)(e:∀x,st=.ok x->a? = b?):aP F s st b?:=by
 obtain⟨n,r,h1,h2⟩:=h
 refine⟨n,r,h1,?_⟩
 match r,h1,h2 with
 | .error e,h1,h2=>exact h2
 | .ok (a,s'),h1,⟨h2,h3⟩=>exact⟨h2,λ⟨x,hx⟩=>(e x hx).symm.trans (h3 ⟨x,hx⟩)⟩
theorem gY{w:ByteArray}{st:Se}{x:Cs}(h:Tr.aN w st=.ok x):∃z,st=.ok z:=by
 cases st with
 | error e=>cases h
 | ok s=>exact⟨s,rfl⟩
theorem vN{st:Se}{x:Cs}(h:Tr.bP st=.ok x):∃z,st=.ok z:=by
 cases st with
 | error e=>cases h
 | ok s=>exact⟨s,rfl⟩
theorem aO.ok{p:Nt}{st st':Se}{o:Option Fo}(h:aO p st st' o){x:Cs}(q:st'=.ok x):∃z,st=.ok z:=by
 cases st with
 | error e=>
  have:st'=.error e:=h
  rw[q] at this
  cases this
 | ok s=>exact⟨s,rfl⟩
section
variable {s:Cs} {y:Yd} {st1 st2 gT mW mM:Se} {e? o:Option Fo} (hs:look s=.ok y)
include hs
theorem QK(h1:st1=Tr.aN fU (.ok s))(h2:st2=Tr.bP st1)(h3:gT=Tr.aN jf st2)(h4:aO .ex gT mW e?)(h5:mM=Tr.aN bV mW)
  (ho:∀t v,mH st1=some t->e? = some v->o=some (one (jr 6 t) v)):aO .lt (.ok s) mM o:=by
 refine aP.toP (aP.step ?_)
 simp only[P]
 subst h5
 refine aP.bind (aP.aN fU (aj hs).symm) (λz s1 e1 _=>?_) (λe q=>by rw[h4.errs e (by rw[h3,h2,h1,q,nA,dB]),dB])
 rw[<- h1] at e1
 refine aP.bind (aP.bP e1) (λt s2 e2 a2=>?_) (λe q=>by rw[h4.errs e (by rw[h3,h2,q,dB]),dB])
 rw[<- h2] at e2 a2
 refine aP.bind (aP.aN jf e2) (λz s3 e3 a3=>?_) (λe q=>by rw[h4.errs e (by rw[h3,q]),dB])
 rw[<- h3] at e3 a3
 refine aP.bind (h4.at e3) (λv s4 e4 a4=>?_) (λe q=>by rw[q,dB])
 refine aP.bind (aP.aN bV e4) (λz s5 e5 _=>?_) (λe q=>q)
 refine aP.same (aP.iL _ e5) (λx hx=>?_)
 obtain⟨x4,q4⟩:=gY hx
 obtain⟨x3,q3⟩:=h4.ok q4
 obtain⟨x2,q2⟩:=gY (h3 ▸ q3)
 exact(ho t v (a2 ⟨x2,q2⟩) (a4 ⟨x4,q4⟩)).symm
theorem VJ(h1:st1=Tr.aN oF (.ok s))(h4:aO .ex st1 mW e?)(h5:mM=Tr.aN bV mW)
  (ho:∀v,e? = some v->o=some (one (kT 16 y) v)):aO .ou (.ok s) mM o:=by
 refine aP.toP (aP.step ?_)
 simp only[P]
 subst h5
 refine aP.bind (aP.aN oF (aj hs).symm) (λt s1 e1 a1=>?_) (λe q=>by rw[h4.errs e (by rw[h1,q]),dB])
 rw[<- h1] at e1 a1
 refine aP.bind (h4.at e1) (λv s4 e4 a4=>?_) (λe q=>by rw[q,dB])
 refine aP.bind (aP.aN bV e4) (λz s5 e5 _=>?_) (λe q=>q)
 refine aP.same (aP.iL _ e5) (λx hx=>?_)
 obtain⟨x4,q4⟩:=gY hx
 obtain⟨x1,q1⟩:=h4.ok q4
 have ht:=a1 ⟨x1,q1⟩
 rw[iB hs] at ht
 cases ht
 exact(ho v (a4 ⟨x4,q4⟩)).symm
end
section
variable {s:Cs} {y:Yd} {l:Fo} {st1 st2 gT mW mM:Se} {e? b? o:Option Fo} (hs:look s=.ok y)
include hs
theorem QB(h1:st1=Tr.aN dU (.ok s))(h2:aO .ex st1 st2 e?)(h3:aO .bl st2 gT b?)
  (ho:∀v b,e? = some v->b? = some b->o=some (one (kT 10 y) (v.app b))):aO .wh (.ok s) gT o:=by
 refine aP.toP (aP.step ?_)
 simp only[P]
 refine aP.bind (aP.aN dU (aj hs).symm) (λt s1 e1 a1=>?_) (λe q=>h3.errs e (h2.errs e (h1.trans q)))
 rw[<- h1] at e1 a1
 refine aP.bind (h2.at e1) (λv s2 e2 a2=>?_) (λe q=>h3.errs e q)
 refine aP.bind (h3.at e2) (λb s3 e3 a3=>?_) (λe q=>q)
 refine aP.same (aP.iL _ e3) (λx hx=>?_)
 obtain⟨x2,q2⟩:=h3.ok hx
 obtain⟨x1,q1⟩:=h2.ok q2
 have ht:=a1 ⟨x1,q1⟩
 rw[iB hs] at ht
 cases ht
 exact(ho v b (a2 ⟨x2,q2⟩) (a3 ⟨x,hx⟩)).symm
theorem Vw{f? g? : Option Fo}{zi Jo:Se}(h1:st1=Tr.aN dZ (.ok s))(h2:st2=Tr.bP st1)(h3:gT=Tr.aN k_in st2)(h4:aO .ex gT mW f?)(h5:mM=Tr.aN qx mW)
  (h6:aO .ex mM zi g?) (h7:aO .bl zi Jo b?) (ho:∀t f g b,mH st1=some t->f? = some f->g? = some g->b? = some b->o=some (one ⟨11,y.a,t.t.text,0,0⟩ ((f.app g).app b))):aO .fr (.ok s) Jo o:=by
 refine aP.toP (aP.step ?_)
 simp only[P]
 have b5:∀e,mW=.error e->Jo=.error e:=λe q=>h7.errs e (h6.errs e (by rw[h5,q,dB]))
 have b3:∀e,st2=.error e->Jo=.error e:=λe q=>b5 e (h4.errs e (by rw[h3,q,dB]))
 refine aP.bind (aP.aN dZ (aj hs).symm) (λt s1 e1 a1=>?_) (λe q=>b3 e (by rw[h2,h1,q,nA]))
 rw[<- h1] at e1 a1
 refine aP.bind (aP.bP e1) (λt s2 e2 a2=>?_) (λe q=>b3 e (by rw[h2,q]))
 rw[<- h2] at e2 a2
 refine aP.bind (aP.aN k_in e2) (λz s3 e3 a3=>?_) (λe q=>b5 e (h4.errs e (by rw[h3,q])))
 rw[<- h3] at e3 a3
 refine aP.bind (h4.at e3) (λf s4 e4 a4=>?_) (λe q=>b5 e q)
 refine aP.bind (aP.aN qx e4) (λz s5 e5 a5=>?_) (λe q=>h7.errs e (h6.errs e (by rw[h5,q])))
 rw[<- h5] at e5 a5
 refine aP.bind (h6.at e5) (λg s6 e6 a6=>?_) (λe q=>h7.errs e q)
 refine aP.bind (h7.at e6) (λb s7 e7 a7=>?_) (λe q=>q)
 refine aP.same (aP.iL _ e7) (λx hx=>?_)
 obtain⟨x6,q6⟩:=h7.ok hx
 obtain⟨x5,q5⟩:=h6.ok q6
 obtain⟨x4,q4⟩:=gY (h5 ▸ q5)
 obtain⟨x3,q3⟩:=h4.ok q4
 obtain⟨x2,q2⟩:=gY (h3 ▸ q3)
 obtain⟨x1,q1⟩:=vN (h2 ▸ q2)
 have ht:=a1 ⟨x1,q1⟩
 rw[iB hs] at ht
 cases ht
 exact(ho t f g b (a2 ⟨x2,q2⟩) (a4 ⟨x4,q4⟩) (a6 ⟨x6,q6⟩) (a7 ⟨x,hx⟩)).symm
theorem Vs(h1:st1=Tr.aN fU (.ok s))(h2:st2=Tr.bP st1)(h3:gT=Tr.aN bV st2)(ho:∀t,mH st1=some t->o=some (one (jr 2 t) nil)):aO .gl (.ok s) gT o:=by
 refine aP.toP (aP.step ?_)
 simp only[P]
 refine aP.bind (aP.aN fU (aj hs).symm) (λt s1 e1 a1=>?_) (λe q=>by rw[h3,h2,h1,q,nA,dB])
 rw[<- h1] at e1 a1
 refine aP.bind (aP.bP e1) (λt s2 e2 a2=>?_) (λe q=>by rw[h3,h2,q,dB])
 rw[<- h2] at e2 a2
 refine aP.bind (aP.aN bV e2) (λz s3 e3 a3=>?_) (λe q=>by rw[h3,q])
 rw[<- h3] at e3 a3
 refine aP.same (aP.iL _ e3) (λx hx=>?_)
 obtain⟨x2,q2⟩:=gY (h3 ▸ hx)
 exact(ho t (a2 ⟨x2,q2⟩)).symm
theorem WZ(h1:st1=Tr.aN sG (.ok s))(h2:aO (.zU nil) st1 st2 b?)(ho:∀b,b? = some b->o=some (one (kT 5 y) b)):aO .bl (.ok s) st2 o:=by
 refine aP.toP (aP.step ?_)
 simp only[P]
 refine aP.bind (aP.aN sG (aj hs).symm) (λt s1 e1 a1=>?_) (λe q=>h2.errs e (h1.trans q))
 rw[<- h1] at e1 a1
 refine aP.bind (h2.at e1) (λb s2 e2 a2=>?_) (λe q=>q)
 refine aP.same (aP.iL _ e2) (λx hx=>?_)
 obtain⟨x1,q1⟩:=h2.ok hx
 have ht:=a1 ⟨x1,q1⟩
 rw[iB hs] at ht
 cases ht
 exact(ho b (a2 ⟨x,hx⟩)).symm
theorem Ta(hw:bR nC (.ok s)=false)(h1:aO .st (.ok s) st1 e?)(h2:jL (λx=>.zU (l.app x)) e? st1 st2 o):aO (.zU l) (.ok s) st2 o:=by
 refine aP.toP (aP.step ?_)
 simp only[P]
 refine aP.look hs (aP.ite (λq=>?_) (λn=>?_))
 ·rw[(ak hs).2 q] at hw
  cases hw
 ·exact aP.rounds (h1.at (aj hs).symm) h2
theorem Pd(hw:bR nC (.ok s)=true):aO (.zU l) (.ok s) (bJ (.ok s)) (some l):=by
 refine aP.toP (aP.step ?_)
 simp only[P]
 refine aP.look hs (aP.ite (λq=>?_) (λn=>absurd ((ak hs).1 hw) n))
 have e:Tr.aN nC (.ok s)=bJ (.ok s):=by
  unfold Tr.aN
  rw[if_pos hw]
 refine aP.bind (aP.aN nC (aj hs).symm) (λt s1 e1 a1=>?_) (λe' q=>e ▸ q)
 rw[e] at e1
 exact aP.iL _ e1
end
set_option linter.unusedSectionVars false
section
variable {s:Cs} {y:Yd} {l:Fo} {p:Bool} {st1 st2 gT mW mM:Se} {e? b? o:Option Fo} (hs:look s=.ok y)
include hs
theorem gF{w:ByteArray}(hw:bR w (.ok s)=true):Tr.aN w (.ok s)=bJ (.ok s):=by
 unfold Tr.aN
 rw[if_pos hw]
theorem jA{w:ByteArray}(hw:bR w (.ok s)=false):Tr.aN w (.ok s)=.error (70,y.a):=by
 unfold Tr.aN
 rw[if_neg (by rw[hw];simp)]
 show Except.error (70,(qA s).a)=_
 rw[(dS hs).1]
theorem G6(hw:bR fM (.ok s)=true):aO (.oq p l) (.ok s) (bJ (.ok s)) (some l):=by
 refine aP.toP (aP.step ?_)
 simp only[P]
 refine aP.look hs (aP.ite (λq=>?_) (λn=>absurd ((ak hs).1 hw) n))
 have e:=gF hs hw
 refine aP.bind (aP.aN fM (aj hs).symm) (λt s1 e1 a1=>?_) (λe' q=>e ▸ q)
 rw[e] at e1
 exact aP.iL _ e1
theorem Iu(hw:bR fM (.ok s)=false)(hl:l.len=0)(h1:aO (if p=true then .pm else .ex) (.ok s) st1 e?)(h2:jL (λx=>.oq p (l.app x)) e? st1 st2 o):aO (.oq p l) (.ok s) st2 o:=by
 refine aP.toP (aP.step ?_)
 simp only[P]
 refine aP.look hs (aP.ite (λq=>?_) (λn=>?_))
 ·rw[(ak hs).2 q] at hw
  cases hw
 rw[if_pos hl]
 refine aP.bind (aP.iL y (aj hs).symm) (λt s1 e1 a1=>?_) (λe q=>by cases q)
 exact aP.rounds (h1.at e1) h2
theorem Ls(hw:bR fM (.ok s)=false)(hl:l.len≠0)(hc:bR nE (.ok s)=true)(h1:aO (if p=true then .pm else .ex) (bJ (.ok s)) st1 e?)(h2:jL (λx=>.oq p (l.app x)) e? st1 st2 o):aO (.oq p l) (.ok s) st2 o:=by
 refine aP.toP (aP.step ?_)
 simp only[P]
 refine aP.look hs (aP.ite (λq=>?_) (λn=>?_))
 ·rw[(ak hs).2 q] at hw
  cases hw
 rw[if_neg hl]
 have e:=gF hs hc
 refine aP.bind (aP.aN nE (aj hs).symm) (λt s1 e1 a1=>?_) (λe' q=>h2.errs e' (h1.errs e' (e ▸ q)))
 rw[e] at e1
 exact aP.rounds (h1.at e1) h2
theorem SV(hw:bR fM (.ok s)=false)(hl:l.len≠0)(hc:bR nE (.ok s)=false):aO (.oq p l) (.ok s) (.error (70,y.a)) o:=by
 refine aP.toP (aP.step ?_)
 simp only[P]
 refine aP.look hs (aP.ite (λq=>?_) (λn=>?_))
 ·rw[(ak hs).2 q] at hw
  cases hw
 rw[if_neg hl]
 have e:=jA hs hc
 refine aP.bind (aP.aN nE (aj hs).symm) (λt s1 e1 a1=>?_) (λe' q=>e ▸ q)
 rw[e] at e1 a1
 unfold iJ at e1
 split at e1
 ·rename_i e' hl'
  cases e1
  refine⟨21,.error _,λm hm=>cK (Qv hl' _ m (by omega)),rfl⟩
 ·cases e1
theorem QL(h1:st1=Tr.aN gH (.ok s))(h2:aO (.oq p nil) st1 st2 o):aO (.ls p) (.ok s) st2 o:=by
 refine aP.toP (aP.step ?_)
 simp only[P]
 refine aP.bind (aP.aN gH (aj hs).symm) (λt s1 e1 a1=>?_) (λe q=>h2.errs e (h1.trans q))
 exact h2.at (h1.trans e1)
theorem VE(h1:st1=Tr.bP (.ok s)):aO .pm (.ok s) st1 (some (one (jr 4 y) nil)):=by
 refine aP.toP (aP.step ?_)
 simp only[P]
 refine aP.bind (aP.bP (aj hs).symm) (λt s1 e1 a1=>?_) (λe q=>h1.trans q)
 rw[<- h1] at e1 a1
 refine aP.same (aP.iL _ e1) (λx hx=>?_)
 have ht:=a1 ⟨x,hx⟩
 rw[iB hs] at ht
 cases ht
 rfl
theorem M9(h1:st1=Tr.aN sH (.ok s))(h2:st2=Tr.bP st1)(h3:aO (.ls true) st2 gT e?)(h4:aO .bl gT mW b?)
  (ho:∀t l b,mH st1=some t->e? = some l->b? = some b->o=some (one (jr 3 t) (l.app b))):aO .fu (.ok s) mW o:=by
 refine aP.toP (aP.step ?_)
 simp only[P]
 have b2:∀e,st2=.error e->mW=.error e:=λe q=>h4.errs e (h3.errs e q)
 refine aP.bind (aP.aN sH (aj hs).symm) (λt s1 e1 a1=>?_) (λe q=>b2 e (by rw[h2,h1,q,nA]))
 rw[<- h1] at e1 a1
 refine aP.bind (aP.bP e1) (λt s2 e2 a2=>?_) (λe q=>b2 e (by rw[h2,q]))
 rw[<- h2] at e2 a2
 refine aP.bind (h3.at e2) (λf s3 e3 a3=>?_) (λe q=>h4.errs e q)
 refine aP.bind (h4.at e3) (λb s4 e4 a4=>?_) (λe q=>q)
 refine aP.same (aP.iL _ e4) (λx hx=>?_)
 obtain⟨x3,q3⟩:=h4.ok hx
 obtain⟨x2,q2⟩:=h3.ok q3
 exact(ho t f b (a2 ⟨x2,q2⟩) (a3 ⟨x3,q3⟩) (a4 ⟨x,hx⟩)).symm
end
section
variable {s:Cs} {y:Yd} {l:Fo} {st1 st2 gT mW mM:Se} {e? b? d? o:Option Fo} (hs:look s=.ok y)
include hs
theorem VP(hk:y.t.kind=1){s1:Cs}{z:Yd}(h1:bJ (.ok s)=.ok s1)(hz:look s1=.ok z)(hw:bR gH (.ok s1)=true)(h2:aO (.ls false) (.ok s1) st2 e?):aO .nm (.ok s) st2 (e?.map (one (jr 23 y))):=by
 refine aP.toP (aP.step ?_)
 simp only[P]
 have e:Tr.bP (.ok s)=bJ (.ok s):=by
  unfold Tr.bP
  rw[if_pos]
  show (decide ((qA s).t.kind=1))=true
  rw[(dS hs).1]
  simpa using hk
 refine aP.bind (aP.bP (aj hs).symm) (λt s2 e1 a1=>?_) (λe' q=>by rw[e,h1] at q;cases q)
 rw[e,h1] at e1 a1
 have ht:=a1 ⟨s1,rfl⟩
 rw[iB hs] at ht
 cases ht
 unfold iJ at e1
 split at e1
 ·cases e1
 ·cases e1
  refine aP.look hz (aP.ite (λ_=>?_) (λn=>absurd ((ak hz).1 hw) n))
  exact aP.map (h2.at (aj hz).symm) _
theorem Oc(hk:y.t.kind=1){s1:Cs}{z:Yd}(h1:bJ (.ok s)=.ok s1)(hz:look s1=.ok z)(hw:bR gH (.ok s1)=false):aO .nm (.ok s) (.ok s1) (some (one (jr 25 y) nil)):=by
 refine aP.toP (aP.step ?_)
 simp only[P]
 have e:Tr.bP (.ok s)=bJ (.ok s):=by
  unfold Tr.bP
  rw[if_pos]
  show (decide ((qA s).t.kind=1))=true
  rw[(dS hs).1]
  simpa using hk
 refine aP.bind (aP.bP (aj hs).symm) (λt s2 e1 a1=>?_) (λe' q=>by rw[e,h1] at q;cases q)
 rw[e,h1] at e1 a1
 have ht:=a1 ⟨s1,rfl⟩
 rw[iB hs] at ht
 cases ht
 unfold iJ at e1
 split at e1
 ·cases e1
 ·cases e1
  refine aP.look hz (aP.ite (λq=>?_) (λ_=>aP.iL _ (aj hz).symm))
  rw[(ak hz).2 q] at hw
  cases hw
theorem SA(hk:y.t.kind=1){e:jv}(h1:bJ (.ok s)=.error e):aO .nm (.ok s) (.error e) o:=by
 refine aP.toP (aP.step ?_)
 simp only[P]
 have e':Tr.bP (.ok s)=bJ (.ok s):=by
  unfold Tr.bP
  rw[if_pos]
  show (decide ((qA s).t.kind=1))=true
  rw[(dS hs).1]
  simpa using hk
 refine aP.bind (aP.bP (aj hs).symm) (λt s2 e1 a1=>?_) (λe'' q=>by rw[e',h1] at q;exact q)
 rw[e',h1] at e1
 unfold iJ at e1
 split at e1
 ·rename_i hl
  cases e1
  exact⟨0,.error _,λm hm=>cK (eu hl),rfl⟩
 ·cases e1
theorem Sn(h1:st1=Tr.aN jV (.ok s))(h2:aO .ex st1 st2 e?)(h3:aO .bl st2 gT b?)(hw:bR pE gT=false)
  (ho:∀v b,e? = some v->b? = some b->o=some (one (kT 9 y) (v.app b))):aO .iF (.ok s) gT o:=by
 refine aP.toP (aP.step ?_)
 simp only[P]
 refine aP.bind (aP.aN jV (aj hs).symm) (λt s1 e1 a1=>?_) (λe q=>h3.errs e (h2.errs e (h1.trans q)))
 rw[<- h1] at e1 a1
 refine aP.bind (h2.at e1) (λv s2 e2 a2=>?_) (λe q=>h3.errs e q)
 refine aP.bind (h3.at e2) (λb s3 e3 a3=>?_) (λe q=>q)
 cases hl:look s3 with
 | error e=>
  rw[fT hl] at e3
  subst e3
  exact⟨0,.error e,λm _=>cK (eu hl),rfl⟩
 | ok z=>
  rw[aj hl] at e3
  subst e3
  refine aP.look hl (aP.ite (λq=>?_) (λn=>?_))
  ·rw[(ak hl).2 q] at hw
   cases hw
  refine aP.same (aP.iL _ (aj hl).symm) (λx hx=>?_)
  obtain⟨x2,q2⟩:=h3.ok hx
  obtain⟨x1,q1⟩:=h2.ok q2
  have ht:=a1 ⟨x1,q1⟩
  rw[iB hs] at ht
  cases ht
  exact(ho v b (a2 ⟨x2,q2⟩) (a3 ⟨x,hx⟩)).symm
end
section
variable {s:Cs} {y:Yd} {l:Fo} {st1 st2 gT mW mM:Se} {e? b? d? o:Option Fo} (hs:look s=.ok y)
include hs
theorem OM(h1:st1=Tr.aN gD (.ok s))(hw:bR bV st1=true):aO .rt (.ok s) (bJ st1) (some (one (kT 15 y) nil)):=by
 refine aP.toP (aP.step ?_)
 simp only[P]
 refine aP.bind (aP.aN gD (aj hs).symm) (λt s1 e1 a1=>?_) (λe q=>by rw[h1.trans q];rfl)
 rw[<- h1] at e1 a1
 cases hl:look s1 with
 | error e=>
  rw[fT hl] at e1
  subst e1
  cases hw
 | ok z=>
  rw[aj hl] at e1
  have ht:=a1 ⟨s1,e1⟩
  rw[iB hs] at ht
  cases ht
  rw[e1] at hw ⊢
  refine aP.look hl (aP.ite (λq=>?_) (λn=>absurd ((ak hl).1 hw) n))
  have e:=gF hl hw
  refine aP.bind (aP.aN bV (aj hl).symm) (λt s2 e2 a2=>?_) (λe' q=>e ▸ q)
  rw[e] at e2
  exact aP.iL _ e2
theorem OL(h1:st1=Tr.aN gD (.ok s))(hw:bR bV st1=false)(h2:aO .ex st1 st2 e?)(h3:gT=Tr.aN bV st2)(ho:∀v,e? = some v->o=some (one (kT 15 y) v)):aO .rt (.ok s) gT o:=by
 refine aP.toP (aP.step ?_)
 simp only[P]
 subst h3
 refine aP.bind (aP.aN gD (aj hs).symm) (λt s1 e1 a1=>?_) (λe q=>by rw[h2.errs e (h1.trans q),dB])
 rw[<- h1] at e1 a1
 cases hl:look s1 with
 | error e=>
  rw[fT hl] at e1
  rw[h2.errs e e1,dB]
  exact⟨0,.error e,λm _=>cK (eu hl),rfl⟩
 | ok z=>
  have e1':=e1
  rw[aj hl] at e1
  have ht:=a1 ⟨s1,e1⟩
  rw[iB hs] at ht
  cases ht
  rw[e1] at hw
  refine aP.look hl (aP.ite (λq=>?_) (λn=>?_))
  ·rw[(ak hl).2 q] at hw
   cases hw
  refine aP.bind (h2.at e1') (λv s2 e2 a2=>?_) (λe q=>by rw[q,dB])
  refine aP.bind (aP.aN bV e2) (λt s3 e3 a3=>?_) (λe q=>q)
  refine aP.same (aP.iL _ e3) (λx hx=>?_)
  obtain⟨x2,q2⟩:=gY hx
  exact(ho v (a2 ⟨x2,q2⟩)).symm
theorem Rm(hk:y.t.kind=7):aO (.pg l) (.ok s) (.ok s) (some (one ⟨1,0,⟨#[]⟩,0,0⟩ l)):=by
 refine aP.toP (aP.step ?_)
 simp only[P]
 exact aP.look hs (aP.ite (λ_=>aP.iL _ (aj hs).symm) (λn=>absurd hk n))
theorem VF(hk:y.t.kind≠7)(h1:aO (if aG y.t=fU then .gl else .fu) (.ok s) st1 e?)(h2:jL (λx=>.pg (l.app x)) e? st1 st2 o):aO (.pg l) (.ok s) st2 o:=by
 refine aP.toP (aP.step ?_)
 simp only[P]
 refine aP.look hs (aP.ite (λq=>absurd q hk) (λ_=>?_))
 exact aP.rounds (h1.at (aj hs).symm) h2
theorem Tq{m:Nd}{ks:Fo}(hw:bR jf (.ok s)=true)(h2:aO .ex (bJ (.ok s)) st2 e?)(h3:gT=Tr.aN bV st2)(ho:∀v,e? = some v->o=some (one m (ks.app v))):aO (.D6 m ks) (.ok s) gT o:=by
 refine aP.toP (aP.step ?_)
 simp only[P]
 subst h3
 have e:=gF hs hw
 refine aP.bind (aP.aN jf (aj hs).symm) (λt s1 e1 a1=>?_) (λe' q=>by rw[h2.errs e' (e ▸ q),dB])
 rw[e] at e1
 refine aP.bind (h2.at e1) (λv s2 e2 a2=>?_) (λe q=>by rw[q,dB])
 refine aP.bind (aP.aN bV e2) (λt s3 e3 a3=>?_) (λe q=>q)
 refine aP.same (aP.iL _ e3) (λx hx=>?_)
 obtain⟨x2,q2⟩:=gY hx
 exact(ho v (a2 ⟨x2,q2⟩)).symm
end
section
variable {s:Cs} {y:Yd} {l:Fo} {st1 st2 gT mW mM:Se} {e? b? d? o:Option Fo} (hs:look s=.ok y)
include hs
theorem MK(h1:st1=Tr.aN jV (.ok s))(h2:aO .ex st1 st2 e?)(h3:aO .bl st2 gT b?)(hw:bR pE gT=true)(h4:mW=bJ gT)
  (h5:aO (if bR jV mW=true then .iF else .bl) mW mM d?) (ho:∀v b d,e? = some v->b? = some b->d? = some d->o=some (one (kT 9 y) ((v.app b).app d))):aO .iF (.ok s) mM o:=by
 refine aP.toP (aP.step ?_)
 simp only[P]
 have b4:∀e,gT=.error e->mM=.error e:=λe q=>h5.errs e (by rw[h4,q];rfl)
 refine aP.bind (aP.aN jV (aj hs).symm) (λt s1 e1 a1=>?_) (λe q=>b4 e (h3.errs e (h2.errs e (h1.trans q))))
 rw[<- h1] at e1 a1
 refine aP.bind (h2.at e1) (λv s2 e2 a2=>?_) (λe q=>b4 e (h3.errs e q))
 refine aP.bind (h3.at e2) (λb s3 e3 a3=>?_) (λe q=>b4 e q)
 cases hl:look s3 with
 | error e=>
  rw[fT hl] at e3
  rw[e3] at hw
  cases hw
 | ok z=>
  rw[aj hl] at e3
  subst e3
  refine aP.look hl (aP.ite (λ_=>?_) (λn=>absurd ((ak hl).1 hw) n))
  refine aP.take hl ?_
  rw[gJ hl] at h4
  have hv:∀x,mM=.ok x->e? = some v/\b? = some b/\t=y:=by
   intro x hx
   obtain⟨x2,q2⟩:=h3.ok rfl
   obtain⟨x1,q1⟩:=h2.ok q2
   have ht:=a1 ⟨x1,q1⟩
   rw[iB hs] at ht
   cases ht
   exact⟨a2 ⟨x2,q2⟩,a3 ⟨s3,rfl⟩,rfl⟩
  cases hk:look (behind z s3) with
  | error e=>
   rw[fT hk] at h4
   rw[h5.errs e h4]
   exact⟨0,.error e,λm _=>cK (eu hk),rfl⟩
  | ok k=>
   have h4':=h4
   rw[aj hk] at h4
   refine aP.look hk ?_
   have hi:(if bR jV mW=true then Nt.iF else Nt.bl)=(if aG k.t=jV then Nt.iF else Nt.bl):=by
    rw[h4]
    by_cases q:aG k.t=jV
    ·rw[if_pos q,if_pos ((ak hk).2 q)]
    ·rw[if_neg q,if_neg (λh=>q ((ak hk).1 h))]
   rw[hi] at h5
   refine aP.bind (h5.at h4') (λd s5 e5 a5=>?_) (λe q=>q)
   refine aP.same (aP.iL _ e5) (λx hx=>?_)
   obtain⟨v1,v2,v3⟩:=hv x hx
   rw[v3]
   exact(ho v b d v1 v2 (a5 ⟨x,hx⟩)).symm
def Jm(s:Cs)(y:Yd):Nt:=if aG y.t=fU then .lt else if aG y.t=jV then .iF else if aG y.t=dU then .wh else if aG y.t=dZ then .fr else if aG y.t=jH then .jm 13 else if aG y.t=fD then .jm 14 else if aG y.t=gD then .rt else if aG y.t=oF then .ou else if y.t.kind=1/\colon s=true then .lb else .pl
theorem oP(h:aO (Jm s y) (.ok s) st1 o):aO .st (.ok s) st1 o:=by
 refine aP.toP (aP.step ?_)
 simp only[P]
 refine aP.look hs ?_
 have h:=h.at (aj hs).symm
 obtain⟨n,r,h1,h2⟩:=h
 refine⟨n,r,λm hm=>?_,h2⟩
 rw[<- h1 m hm]
 unfold Jm
 repeat' (split <;> try rfl)
 ·rename_i h9
  show (if y.t.kind=1/\colon s=true then P m Nt.lb else P m Nt.pl) s=P m Nt.lb s
  rw[if_pos h9]
 ·rename_i h9
  show (if y.t.kind=1/\colon s=true then P m Nt.lb else P m Nt.pl) s=P m Nt.pl s
  rw[if_neg h9]
end
theorem Ck{s z:Cs}(h:iJ s=.ok z):z=s/\∃y,look s=.ok y:=by
 unfold iJ at h
 split at h
 ·cases h
 ·cases h
  exact⟨rfl,_,by assumption⟩
section
variable {s:Cs} {y:Yd} {l:Fo} {st1 st2 gT mW mM:Se} {e? b? d? o:Option Fo} (hs:look s=.ok y)
include hs
theorem Oq{k:Int}(h1:st1=bJ (.ok s))(hw:bR bV st1=true):aO (.jm k) (.ok s) (bJ st1) (some (one (kT k y) nil)):=by
 refine aP.toP (aP.step ?_)
 simp only[P]
 refine aP.take hs ?_
 rw[gJ hs] at h1
 cases hl:look (behind y s) with
 | error e=>
  rw[fT hl] at h1
  subst h1
  cases hw
 | ok z=>
  rw[aj hl] at h1
  subst h1
  refine aP.look hl (aP.ite (λ_=>?_) (λn=>absurd ((ak hl).1 hw) n))
  have e:=gF hl hw
  refine aP.bind (aP.aN bV (aj hl).symm) (λt s2 e2 a2=>?_) (λe' q=>e ▸ q)
  rw[e] at e2
  exact aP.iL _ e2
theorem Ae{k:Int}(h1:st1=bJ (.ok s))(hw:bR bV st1=false)(h2:st2=Tr.bP st1)(h3:gT=Tr.aN bV st2)(ho:∀v,mH st1=some v->o=some (one ⟨k,y.a,v.t.text,0,0⟩ nil)):aO (.jm k) (.ok s) gT o:=by
 refine aP.toP (aP.step ?_)
 simp only[P]
 refine aP.take hs ?_
 rw[gJ hs] at h1
 cases hl:look (behind y s) with
 | error e=>
  rw[fT hl] at h1
  rw[h3,h2,h1,nA,dB]
  exact⟨0,.error e,λm _=>cK (eu hl),rfl⟩
 | ok z=>
  have h1':=h1
  rw[aj hl] at h1
  rw[h1] at hw
  refine aP.look hl (aP.ite (λq=>?_) (λn=>?_))
  ·rw[(ak hl).2 q] at hw
   cases hw
  refine aP.bind (aP.bP h1') (λv s2 e2 a2=>?_) (λe q=>by rw[h3,h2,q,dB])
  rw[<- h2] at e2
  refine aP.bind (aP.aN bV e2) (λt s3 e3 a3=>?_) (λe q=>by rw[h3,q])
  rw[<- h3] at e3
  refine aP.same (aP.iL _ e3) (λx hx=>?_)
  obtain⟨x2,q2⟩:=gY (h3 ▸ hx)
  exact(ho v (a2 ⟨x2,h2 ▸ q2⟩)).symm
theorem C9{m:Nd}{ks r:Fo}(h1:aO .ex (.ok s) st1 (some (.cons m ks r)))(hw:bR jf st1=true)(hm:m.kind=25\/m.kind=24)
  (h2:aO (.D6 ⟨if m.kind=25 then 7 else 8,m.a,m.text,m.int,m.bits⟩ ks) st1 st2 o):aO .pl (.ok s) st2 o:=by
 refine aP.toP (aP.step ?_)
 simp only[P]
 refine aP.bind (h1.at (aj hs).symm) (λf s1 e1 a1=>?_) (λe q=>h2.errs e q)
 cases hl:look s1 with
 | error e=>
  rw[fT hl] at e1
  rw[e1] at hw
  cases hw
 | ok z=>
  have e1':=e1
  rw[aj hl] at e1
  have hf:=a1 ⟨s1,e1⟩
  cases hf
  rw[e1] at hw
  have hz:=(ak hl).1 hw
  refine aP.look hl ?_
  by_cases q:m.kind=25
  ·rw[if_pos q] at h2
   exact aP.ite (λ_=>h2.at e1') (λn=>absurd ⟨hz,q⟩ n)
  ·rw[if_neg q] at h2
   refine aP.ite (λx=>absurd x.2 q) (λ_=>?_)
   exact aP.ite (λ_=>h2.at e1') (λn=>absurd ⟨hz,by omega⟩ n)
end
section
variable {s:Cs} {y:Yd} {l:Fo} {st1 st2 gT mW mM:Se} {e? b? d? r? o:Option Fo}
theorem TQ(h1:aO (.bn 1) (.ok s) st1 o)(hs:look s=.ok y)(hw:∀x z,st1=.ok x->look x=.ok z->comp (aG z.t)≠true):aO .cm (.ok s) st1 o:=by
 refine aP.toP (aP.step ?_)
 simp only[P]
 refine aP.bind (h1.at (aj hs).symm) (λf s1 e1 a1=>?_) (λe q=>q)
 cases hl:look s1 with
 | error e=>
  rw[fT hl] at e1
  subst e1
  exact⟨0,.error e,λm _=>cK (eu hl),rfl⟩
 | ok z=>
  have e1':=e1
  rw[aj hl] at e1
  refine aP.look hl (aP.ite (λq=>absurd q (hw s1 z e1 hl)) (λ_=>?_))
  exact aP.same (aP.iL _ e1') (λx hx=>(a1 ⟨s1,e1⟩).symm)
theorem TP{s1:Cs}{z:Yd}(h1:aO (.bn 1) (.ok s) (.ok s1) (some l))(hs:look s=.ok y)(hz:look s1=.ok z)(hw:comp (aG z.t)=true)(h2:aO (.bn 1) (bJ (.ok s1)) st2 r?):aO .cm (.ok s) st2 (r?.map λr=>one (jr 21 z) (l.app r)):=by
 refine aP.toP (aP.step ?_)
 simp only[P]
 refine aP.bind (h1.at (aj hs).symm) (λf s2 e1 a1=>?_) (λe q=>by cases q)
 obtain⟨q,_⟩:=Ck e1.symm
 subst q
 have hf:=a1 ⟨_,rfl⟩
 cases hf
 refine aP.look hz (aP.ite (λ_=>?_) (λn=>absurd hw n))
 exact aP.take hz (aP.map (h2.behind hz) _)
theorem Nr(hs:look s=.ok y)(hw:bR kF (.ok s)=true):aO .wd (.ok s) (bJ (.ok s)) (some (one (kT 29 y) nil)):=by
 refine aP.toP (aP.step ?_)
 simp only[P]
 rw[gJ hs]
 refine aP.look hs (aP.ite (λ_=>aP.take hs (aP.pure _ _)) (λn=>absurd ((ak hs).1 hw) n))
theorem Jy(hs:look s=.ok y)(hw:bR jG (.ok s)=true):aO .wd (.ok s) (bJ (.ok s)) (some (one (kT 30 y) nil)):=by
 have hf:=(ak hs).1 hw
 refine aP.toP (aP.step ?_)
 simp only[P]
 rw[gJ hs]
 refine aP.look hs (aP.ite (λq=>?_) (λ_=>aP.ite (λ_=>aP.take hs (aP.pure _ _)) (λn=>absurd hf n)))
 rw[hf] at q
 exact absurd q (by decide)
theorem Jw(hs:look s=.ok y)(h1:bR kF (.ok s)=false)(h2:bR jG (.ok s)=false)(h3:st1=Tr.aN oG (.ok s)):aO .wd (.ok s) st1 (some (one (kT 31 y) nil)):=by
 refine aP.toP (aP.step ?_)
 simp only[P]
 refine aP.look hs (aP.ite (λq=>?_) (λ_=>aP.ite (λq=>?_) (λ_=>?_)))
 ·rw[(ak hs).2 q] at h1
  cases h1
 ·rw[(ak hs).2 q] at h2
  cases h2
 refine aP.bind (aP.aN oG (aj hs).symm) (λt s1 e1 a1=>?_) (λe q=>h3.trans q)
 rw[<- h3] at e1 a1
 refine aP.same (aP.iL _ e1) (λx hx=>?_)
 have ht:=a1 ⟨x,hx⟩
 rw[iB hs] at ht
 cases ht
 rfl
theorem Ca{m:Nd}{ks r:Fo}{s1:Cs}(hs:look s=.ok y)(h1:aO .ex (.ok s) (.ok s1) (some (.cons m ks r)))(hw:bR jf (.ok s1)=false\/(m.kind≠25/\m.kind≠24)):aO .pl (.ok s) (Tr.aN bV (.ok s1)) (some (one ⟨17,m.a,⟨#[]⟩,0,0⟩ (.cons m ks r))):=by
 refine aP.toP (aP.step ?_)
 simp only[P]
 refine aP.bind (h1.at (aj hs).symm) (λf s2 e1 a1=>?_) (λe q=>by cases q)
 obtain⟨q,z,hz⟩:=Ck e1.symm
 subst q
 have hf:=a1 ⟨_,rfl⟩
 cases hf
 refine aP.look hz ?_
 have hn:∀k:Int,k=25\/k=24->¬ (aG z.t=jf/\m.kind=k):=by
  rintro k hk ⟨q1,q2⟩
  rcases hw with hw|hw
  ·rw[(ak hz).2 q1] at hw
   cases hw
  ·omega
 refine aP.ite (λq=>absurd q (hn 25 (.inl rfl))) (λ_=>aP.ite (λq=>absurd q (hn 24 (.inr rfl))) (λ_=>?_))
 refine aP.bind (aP.aN bV (aj hz).symm) (λt s3 e3 a3=>?_) (λe q=>q)
 exact aP.iL _ e3
theorem Rl{e:jv}(hs:look s=.ok y)(h1:aO .ex (.ok s) (.error e) e?):aO .pl (.ok s) (.error e) o:=by
 refine aP.toP (aP.step ?_)
 simp only[P]
 refine aP.bind (h1.at (aj hs).symm) (λf s2 e1 a1=>?_) (λe q=>q)
 cases hl:look s2 with
 | ok z=>
  rw[aj hl] at e1
  cases e1
 | error e'=>
  rw[fT hl] at e1
  cases e1
  exact⟨0,.error _,λm _=>cK (eu hl),rfl⟩
end
section
variable {s:Cs} {y:Yd} {l:Fo} {st1 st2 gT mW mM:Se} {e? b? d? r? o:Option Fo} (hs:look s=.ok y)
include hs
theorem P5(hw:bR uP (.ok s)=true)(h1:aO .ng (bJ (.ok s)) st1 r?)(h2:jL (λr=>.xH (one (kT 19 y) (l.app r))) r? st1 st2 o):aO (.xH l) (.ok s) st2 o:=by
 refine aP.toP (aP.step ?_)
 simp only[P]
 refine aP.look hs (aP.ite (λ_=>?_) (λn=>absurd ((ak hs).1 hw) n))
 exact aP.take hs (aP.rounds (h1.behind hs) h2)
def lbF(y:Yd)(V5:Bool)(f:Fo):Fo:=if V5=true then (match f with | .cons m ks r=>.cons m ((one (jr 12 y) nil).app ks) r | .nil=>.nil) else (match f with | .cons m ks r=>.cons ⟨m.kind,m.a,y.t.text,m.int,m.bits⟩ ks r | .nil=>.nil)
theorem VZ(h1:st1=Tr.bP (.ok s))(h2:st2=Tr.aN pF st1)(h3:aO (if bR dZ st2=true then .fr else .wh) st2 gT r?):aO .lb (.ok s) gT (r?.map (lbF y (bR dZ st2))):=by
 refine aP.toP (aP.step ?_)
 simp only[P]
 refine aP.bind (aP.bP (aj hs).symm) (λt s1 e1 a1=>?_) (λe q=>h3.errs e (by rw[h2,h1,q,dB]))
 rw[<- h1] at e1 a1
 refine aP.bind (aP.aN pF e1) (λz s2 e2 a2=>?_) (λe q=>h3.errs e (by rw[h2,q]))
 rw[<- h2] at e2 a2
 cases hl:look s2 with
 | error e=>
  rw[fT hl] at e2
  rw[h3.errs e e2]
  exact⟨0,.error e,λm _=>cK (eu hl),rfl⟩
 | ok z=>
  have e2':=e2
  rw[aj hl] at e2
  obtain⟨x1,q1⟩:=gY (h2 ▸ e2)
  have ht:=a1 ⟨x1,q1⟩
  rw[iB hs] at ht
  cases ht
  refine aP.look hl ?_
  by_cases q:aG z.t=dZ
  ·have hf:bR dZ st2=true:=by rw[e2];exact(ak hl).2 q
   rw[if_pos hf] at h3
   refine aP.ite (λ_=>?_) (λn=>absurd q n)
   rw[hf]
   exact aP.same (aP.map (h3.at e2') _) (λx hx=>by cases r? <;> rfl)
  ·have hf:bR dZ st2≠true:=by rw[e2];exact λh=>q ((ak hl).1 h)
   rw[if_neg hf] at h3
   refine aP.ite (λn=>absurd n q) (λ_=>?_)
   rw[Bool.eq_false_iff.2 hf]
   exact aP.same (aP.map (h3.at e2') _) (λx hx=>by cases r? <;> rfl)
end
end Go.Proofs.YtgchnkgolclmgaaGreatDoor.W.Tr
