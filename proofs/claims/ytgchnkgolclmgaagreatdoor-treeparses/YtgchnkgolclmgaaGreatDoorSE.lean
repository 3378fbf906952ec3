import Derived.Test.YtgchnkgolclmgaaGreatDoorJG
import Derived.Test.YtgchnkgolclmgaaGreatDoorSC
open List renaming mem_cons_self → ay
open Array renaming getElem?_eq_some_iff → aY
open Nat renaming le_refl → aL, lt_of_le_of_lt → dI
open Go.World renaming alloc → bY
open Go.RowKit.Below renaming refl → aH
open Go.Lib renaming wp_append_run → bO
open Go.Proofs.Tryz
open List renaming getElem_toArray → aW, getElem_cons_zero → aV, getElem_cons_succ → aU, setIfInBounds_toArray → aT, set_cons_zero → aS, set_cons_succ → aR
set_option maxRecDepth 1000000
set_option maxHeartbeats 8000000
namespace Go.Proofs.YtgchnkgolclmgaaGreatDoor.W.Tr
open Go.ChangeShapes Go.WideShapes Go.RowKit Go.Shelf
set_option linter.unusedVariables false
set_option linter.unusedSimpArgs false
def oH(n:Nat)(st:Se):Prop:=∀s,st=.ok s->mu st<n
theorem oH.want{n:Nat}{st:Se}{w:ByteArray}(h:oH n st)(hm:mu (aN w st)<=mu st):oH n (aN w st):=by
 intro s e
 obtain⟨z,hz⟩:=gY e
 exact dI hm (h z hz)
theorem oH.name{n:Nat}{st:Se}(h:oH n st)(hm:mu (bP st)<=mu st):oH n (bP st):=by
 intro s e
 obtain⟨z,hz⟩:=vN e
 exact dI hm (h z hz)
theorem oH.out{n:Nat}{st st':Se}{p:Nt}{o:Option Fo}(h:oH n st)(ho:aO p st st' o):oH n st':=by
 intro s e
 obtain⟨z,hz⟩:=ho.ok e
 exact dI ho.mu (h z hz)
theorem oH.lt{n:Nat}{st:Se}(h:mu st<n):oH n st:=λ_ _=>h
theorem oH.first{n:Nat}{st:Se}{y:Yd}(w:ByteArray)(hs:∀s,st=.ok s->look s=.ok y)(hn:mu st<=n):oH n (aN w st):=λs e=>Nat.lt_of_lt_of_le (wR w hs e) hn
theorem oH.step{n:Nat}{st:Se}(h:oH n st)(hm:mu (bJ st)<mu st){s:Cs}(e:st=.ok s):oH n (bJ st):=λ_ _=>Nat.lt_trans hm (h s e)
def vT(g:Nat)(p:Nt)(n:Nat):Prop:=∀W rb l st y,Rx W W rb l st y []->oH n st->Calls prog g #[ptr rb] W (qH W rb l p st)
theorem vT.of{g:Nat}{p:Nt}{n:Nat}(c:∀m,m<n->nO g p m)(e:∀W rb l f y,Rx W W rb l (.error f) y []->Calls prog g #[ptr rb] W (qH W rb l p (.error f))):vT g p n:=by
 intro W rb l st y hx hb
 cases st with
 | error f=>exact e W rb l f y hx
 | ok s=>exact c (mu (.ok s)) (hb s rfl) W rb l _ y hx (aL _)
theorem DR(W:World)(rb:Nat)(l:ByteArray)(f:jv)(y:Yd)(hx0:Rx W W rb l (.error f) y []):Calls prog 71 #[ptr rb] W (qH W rb l .ex (.error f)):=
 Mf 0 (λW rb l st y h hn=>by
  cases st with
  | error e=>exact rD h
  | ok s=>exact absurd (sD h.ok) (by have:mu (.ok s)<=0:=hn;show ¬0<mu (.ok s);omega)) W rb l _ y hx0 (aL _)
theorem zT(W:World)(rb:Nat)(l:ByteArray)(f:jv)(y:Yd)(hx0:Rx W W rb l (.error f) y []):Calls prog 26 #[ptr rb] W (qH W rb l .bl (.error f)):=
 D5 0 (λm hm=>absurd hm (Nat.not_lt_zero m)) W rb l _ y hx0 (aL _)
section
variable {W0 W w':World} {rb:Nat} {l:ByteArray} {st st':Se} {y:Yd} {L:List (Nat × Fo)} {M:List (Nat × Yd)} {p:Nt} {g n:Nat}
theorem Rt.jq(h:Rt W0 W rb l st y L M)(c:vT g p n)(hn:oH n st):Calls prog g #[ptr rb] W λe w'=>∃b m ks st' y',e=.returned (ptr b)/\Rt W0 w' rb l st' y' L M/\It.bL (λk=>k=rb) W w'/\cZ w' (λk=>W.heap.size<=k) [b] (Fo.one m ks)/\aO p st st' (some (Fo.one m ks))/\CT m ks/\mu st'<=mu st:=by
 refine(c W rb l st y h.x.gP hn).mono ?_
 rintro e w' ⟨b,m,ks,st',y',he,h1,ho,hc⟩
 exact⟨b,m,ks,st',y',he,h.merge h1 ho.mu,h1.upd,h1.ts _ (List.mem_singleton.2 rfl),ho,hc,ho.mu⟩
theorem Rt.VG(h:Rt W0 W rb l st y L M)(c:vT g p n)(hn:oH n st):Calls prog g #[ptr rb] W λe w'=>∃b m ks st' y',e=.returned (ptr b)/\Rt W0 w' rb l st' y' ((b,Fo.one m ks)::L) M/\aO p st st' (some (Fo.one m ks))/\CT m ks/\mu st'<=mu st:=by
 refine(c W rb l st y h.x.gP hn).mono ?_
 rintro e w' ⟨b,m,ks,st',y',he,h1,ho,hc⟩
 exact⟨b,m,ks,st',y',he,⟨h.x.up h1 ho,h.tks h1.upd⟩,ho,hc,ho.mu⟩
end
theorem TS{st st2 gT:Se}{y:Yd}{e b:Fo}(hs:∀s,st=.ok s->look s=.ok y)(h2:aO .ex (aN jV st) st2 (some e))(h3:aO .bl st2 gT (some b))(hw:bR pE gT=false):aO .iF st gT (some (Fo.one ⟨9,y.a,⟨#[]⟩,0,0⟩ (e.app b))):=by
 cases st with
 | error f=>exact h3.errs f (h2.errs f rfl)
 | ok s=>exact Sn (hs s rfl) rfl h2 h3 hw (λv c e1 e2=>by cases e1;cases e2;rfl)
theorem NA{st st2 gT mM:Se}{y:Yd}{e b d:Fo}(hs:∀s,st=.ok s->look s=.ok y)(h2:aO .ex (aN jV st) st2 (some e))(h3:aO .bl st2 gT (some b))(hw:bR pE gT=true)(h5:aO (if bR jV (bJ gT)=true then .iF else .bl) (bJ gT) mM (some d)):aO .iF st mM (some (Fo.one ⟨9,y.a,⟨#[]⟩,0,0⟩ ((e.app b).app d))):=by
 cases st with
 | error f=>
  have:=h3.errs f (h2.errs f rfl)
  rw[this] at hw
  cases hw
 | ok s=>exact MK (hs s rfl) rfl h2 h3 hw rfl h5 (λv c d e1 e2 e3=>by cases e1;cases e2;cases e3;rfl)
theorem Mw(n:Nat)(ce:vT 71 .ex n)(cb:vT 26 .bl n)(cc:∀m,m<n->nO 72 .iF m):nO 72 .iF n:=by
 intro W rb l st y hx0 hn
 have hx:=Rt.start hx0
 have HY:=hid hx.wN
 have HD1:=hid (oH.first jV hx.wN hn)
 clear hx0 hn
 go_enter func72,ntmps72
 go_upto_region 2 with(first|(go_at_call 14;(with_reducible refine(Rt.want hx _ (by decide)).mono ?_);rintro x w2 ⟨rfl,y1,hx2,q1⟩;(replace hx:=hx2);clear hx2)|(go_at_call 9;(with_reducible refine(Rt.nd0 hx _ _ _).mono ?_);rintro x w2 ⟨b1,rfl,hx2⟩;(replace hx:=hx2);clear hx2))
 have iy:=hid (show Fo.len Fo.nil<=6010 by show (_:Nat)<=6010;simp[Fo.app,Fo.len,Fo.one])
 obtain⟨u,bk,hbr⟩:=Bt.of (hx.x.ts (b1,Fo.one ⟨9,y.a,⟨#[]⟩,0,0⟩ Fo.nil) (by simp))
 have hlen:=cZ.len hbr.kids
 obtain⟨uo,uc,rfl⟩:=hbr.slice
 replace hx:=hx.drew
 have HB:=hid (hbr.upd hx.x.lt (It.bL.of_below (aH _ _).drew))
 have HL:=hid hlen
 clear hbr hlen
 refine It.bM (z:=11) (S:=λw'=>w'.cell? ⟨b1,6,none⟩=some (Value.slice uo bk.length uc)) (by kernel_rfl) ?_
 have hS:_:=(aA HB.out.top 6:_=some (Value.slice uo bk.length uc))
 iterate 6 ((refine It.nL 0 ?_ rfl (by kernel_rfl) (λ_ _ _ h=>h) (Or.inl ⟨by rfl,?_⟩) hS ?_);rotate_left;(focus (intro w' hSw;go_simp;(try with_reducible rfl)));(try simp only[Act.put,aW,aV,aU,aT,aS,aR]))
 refine It.aD (i:=6) (by kernel_rfl) rfl rfl (λK hK=>?_)
 refine It.aB (λc h=>by cases h) ?_
 have HK:=hid hK
 clear hK
 go_simp
 refine(Rt.jq hx ce HD1.out).mono ?_
 rintro e w2 ⟨b2,m2,k2,st2,y2,rfl,hx2,hU,hfx,ho2,hc2,hm2⟩
 have hb2:=HB.out.upd hx.x.lt hU
 refine HK.out _ _ (.inr (aA hb2.top 6)) ?_
 clear HK hS
 (try simp only[Act.put,aW,aV,aU,aT,aS,aR])
 obtain⟨u2,w4,hrun,ho2,hg2,hk2⟩:=bS w2 44 (.slice uo bk.length uc) bk.length _ hb2.row hx2.x.upd.size b2 (by have:=HL.out;have:=iy.out;omega)
 obtain⟨o2,c2,rfl⟩:=aI ho2
 refine It.aD (i:=7) (by kernel_rfl) rfl rfl (λK hK=>?_)
 refine It.aB (λc h=>by cases h) ?_
 have HK:=hid hK
 clear hK
 go_simp
 have hb3:=aF hb2.top ((aH _ w2).alloc (aL _) (.cells #[ptr b2] 40))
 refine HK.out _ _ (.inr (aA hb3 6)) ?_
 clear HK
 (try simp only[Act.put,aW,aV,aU,aT,aS,aR])
 refine It.aD (i:=8) (by kernel_rfl) rfl rfl (λK hK=>?_)
 refine It.aB (λc h=>by cases h) ?_
 refine bO _ (.tmp 11) (.tmp 14) 44 44 rfl _ _ rfl rfl _ _ hrun ?_
 have t4:=(hg2.block _ (aY.1 hb3).1 (λe=>HB.out.ne _ e.symm rfl)).trans hb3
 have hS:_:=(aA t4 6:_=some (Value.slice uo bk.length uc))
 refine hK _ _ (.inr hS) ?_
 clear hK K hrun
 (try simp only[Act.put,aW,aV,aU,aT,aS,aR])
 refine It.aD (i:=9) (by kernel_rfl) rfl rfl (λK hK=>?_)
 refine It.aB (λc h=>by cases h) ?_
 have HK:=hid hK
 clear hK
 go_simp
 refine HK.out _ _ (.inr hS) ?_
 clear HK
 (try simp only[Act.put,aW,aV,aU,aT,aS,aR])
 refine It.aD (i:=10) (by kernel_rfl) rfl rfl (λK hK=>?_)
 refine It.aB (λc h=>by cases h) ?_
 have HK:=hid hK
 clear hK
 go_simp
 refine HK.out _ _ (.inr hS) ?_
 clear HK
 (try simp only[Act.put,aW,aV,aU,aT,aS,aR])
 refine It.aD (i:=11) (by kernel_rfl) rfl rfl (λK hK=>?_)
 refine It.aB (λc h=>by cases h) ?_
 have HK:=hid hK
 clear hK
 have zz:=aC t4 6
 go_simp
 have hx3:=Rt.append hx2 hU hx.x.upd.size HB.out hfx ho2 hg2 hk2
 refine HK.out _ _ (.inl rfl) ?_
 clear HK
 (try simp only[Act.put,aW,aV,aU,aT,aS,aR])
 replace hx:=hx3
 clear hx3 hx2 hU hfx HB HL hb2 hb3 t4 zz hS ho2 hg2 hk2
 refine It.bQ (by kernel_rfl) ?_ _
 clear iy
 have HD2:=hid (HD1.out.out ho2)
 go_upto_region 3 with fail
 have iy:=hid (show Fo.len (Fo.nil.app (Fo.one m2 k2))<=6010 by show (_:Nat)<=6010;simp[Fo.app,Fo.len,Fo.one])
 obtain⟨u,bk,hbr⟩:=Bt.of (hx.x.ts (b1,Fo.one ⟨9,y.a,⟨#[]⟩,0,0⟩ (Fo.nil.app (Fo.one m2 k2))) (by simp))
 have hlen:=cZ.len hbr.kids
 obtain⟨uo,uc,rfl⟩:=hbr.slice
 replace hx:=hx.drew
 have HB:=hid (hbr.upd hx.x.lt (It.bL.of_below (aH _ _).drew))
 have HL:=hid hlen
 clear hbr hlen
 refine It.bM (z:=11) (S:=λw'=>w'.cell? ⟨b1,6,none⟩=some (Value.slice uo bk.length uc)) (by kernel_rfl) ?_
 have hS:_:=(aA HB.out.top 6:_=some (Value.slice uo bk.length uc))
 iterate 6 ((refine It.nL 0 ?_ rfl (by kernel_rfl) (λ_ _ _ h=>h) (Or.inl ⟨by rfl,?_⟩) hS ?_);rotate_left;(focus (intro w' hSw;go_simp;(try with_reducible rfl)));(try simp only[Act.put,aW,aV,aU,aT,aS,aR]))
 refine It.aD (i:=6) (by kernel_rfl) rfl rfl (λK hK=>?_)
 refine It.aB (λc h=>by cases h) ?_
 have HK:=hid hK
 clear hK
 go_simp
 refine(Rt.jq hx cb HD2.out).mono ?_
 rintro e w2 ⟨b3,m3,k3,gT,y3,rfl,hx2,hU,hfx,ho3,hc3,xw⟩
 have hb2:=HB.out.upd hx.x.lt hU
 refine HK.out _ _ (.inr (aA hb2.top 6)) ?_
 clear HK hS
 (try simp only[Act.put,aW,aV,aU,aT,aS,aR])
 obtain⟨u2,w4,hrun,ho2,hg2,hk2⟩:=bS w2 44 (.slice uo bk.length uc) bk.length _ hb2.row hx2.x.upd.size b3 (by have:=HL.out;have:=iy.out;omega)
 obtain⟨o2,c2,rfl⟩:=aI ho2
 refine It.aD (i:=7) (by kernel_rfl) rfl rfl (λK hK=>?_)
 refine It.aB (λc h=>by cases h) ?_
 have HK:=hid hK
 clear hK
 go_simp
 have hb3:=aF hb2.top ((aH _ w2).alloc (aL _) (.cells #[ptr b3] 40))
 refine HK.out _ _ (.inr (aA hb3 6)) ?_
 clear HK
 (try simp only[Act.put,aW,aV,aU,aT,aS,aR])
 refine It.aD (i:=8) (by kernel_rfl) rfl rfl (λK hK=>?_)
 refine It.aB (λc h=>by cases h) ?_
 refine bO _ (.tmp 22) (.tmp 25) 44 44 rfl _ _ rfl rfl _ _ hrun ?_
 have t4:=(hg2.block _ (aY.1 hb3).1 (λe=>HB.out.ne _ e.symm rfl)).trans hb3
 have hS:_:=(aA t4 6:_=some (Value.slice uo bk.length uc))
 refine hK _ _ (.inr hS) ?_
 clear hK K hrun
 (try simp only[Act.put,aW,aV,aU,aT,aS,aR])
 refine It.aD (i:=9) (by kernel_rfl) rfl rfl (λK hK=>?_)
 refine It.aB (λc h=>by cases h) ?_
 have HK:=hid hK
 clear hK
 go_simp
 refine HK.out _ _ (.inr hS) ?_
 clear HK
 (try simp only[Act.put,aW,aV,aU,aT,aS,aR])
 refine It.aD (i:=10) (by kernel_rfl) rfl rfl (λK hK=>?_)
 refine It.aB (λc h=>by cases h) ?_
 have HK:=hid hK
 clear hK
 go_simp
 refine HK.out _ _ (.inr hS) ?_
 clear HK
 (try simp only[Act.put,aW,aV,aU,aT,aS,aR])
 refine It.aD (i:=11) (by kernel_rfl) rfl rfl (λK hK=>?_)
 refine It.aB (λc h=>by cases h) ?_
 have HK:=hid hK
 clear hK
 have zz:=aC t4 6
 go_simp
 have hx3:=Rt.append hx2 hU hx.x.upd.size HB.out hfx ho2 hg2 hk2
 refine HK.out _ _ (.inl rfl) ?_
 clear HK
 (try simp only[Act.put,aW,aV,aU,aT,aS,aR])
 replace hx:=hx3
 clear hx3 hx2 hU hfx HB HL hb2 hb3 t4 zz hS ho2 hg2 hk2
 refine It.bQ (by kernel_rfl) ?_ _
 clear iy
 have HD3:=hid (HD2.out.out ho3)
 go_upto_region 4 with fail
 cases g:bR pE gT
 ·go_wp2_with (go_at_call 11;(with_reducible refine(Rt.nG hx _ (by decide) g).mono ?_);rintro x w2 ⟨rfl,hw⟩;(have hw':=hw.symm);subst hw';clear hw)
  go_ret
  exact hx.res (ay ..) (TS HY.out ho2 ho3 g) (dD (by decide) (by decide))
 ·cases gT with
  | error e=>cases g
  | ok s3=>
   go_upto_region 6 with(first|(go_at_call 11;(with_reducible refine(Rt.lX hx _ (by decide) g).mono ?_);rintro x w2 ⟨rfl,hw⟩;(have hw':=hw.symm);subst hw';clear hw)|(go_at_call 12;(with_reducible refine(Rt.stepT hx pE (by decide) g).mono ?_);rintro x w2 ⟨rfl,y4,hx2,q4⟩;(replace hx:=hx2);clear hx2))
   have HD4:=hid (HD3.out.step q4 rfl)
   have hc3:=λmM d=>NA (mM:=mM) (d:=d) HY.out ho2 ho3 g
   obtain⟨mW,Vd⟩:∃mW,bJ (.ok s3)=mW:=⟨_,rfl⟩
   rw[Vd] at hx HD4 hc3
   clear Vd q4
   cases g2:bR jV mW
   ·go_upto_region 8 with(go_at_call 11;(with_reducible refine(Rt.nG hx _ (by decide) g2).mono ?_);rintro x w2 ⟨rfl,hw⟩;(have hw':=hw.symm);subst hw';clear hw)
    have iy:=hid (show Fo.len ((Fo.nil.app (Fo.one m2 k2)).app (Fo.one m3 k3))<=6010 by show (_:Nat)<=6010;simp[Fo.app,Fo.len,Fo.one])
    obtain⟨u,bk,hbr⟩:=Bt.of (hx.x.ts (b1,Fo.one ⟨9,y.a,⟨#[]⟩,0,0⟩ ((Fo.nil.app (Fo.one m2 k2)).app (Fo.one m3 k3))) (by simp))
    have hlen:=cZ.len hbr.kids
    obtain⟨uo,uc,rfl⟩:=hbr.slice
    replace hx:=hx.drew
    have HB:=hid (hbr.upd hx.x.lt (It.bL.of_below (aH _ _).drew))
    have HL:=hid hlen
    clear hbr hlen
    refine It.bM (z:=11) (S:=λw'=>w'.cell? ⟨b1,6,none⟩=some (Value.slice uo bk.length uc)) (by kernel_rfl) ?_
    have hS:_:=(aA HB.out.top 6:_=some (Value.slice uo bk.length uc))
    iterate 6 ((refine It.nL 0 ?_ rfl (by kernel_rfl) (λ_ _ _ h=>h) (Or.inl ⟨by rfl,?_⟩) hS ?_);rotate_left;(focus (intro w' hSw;go_simp;(try with_reducible rfl)));(try simp only[Act.put,aW,aV,aU,aT,aS,aR]))
    refine It.aD (i:=6) (by kernel_rfl) rfl rfl (λK hK=>?_)
    refine It.aB (λc h=>by cases h) ?_
    have HK:=hid hK
    clear hK
    go_simp
    refine(Rt.jq hx cb HD4.out).mono ?_
    rintro e w2 ⟨b5,m5,k5,mM,y5,rfl,hx2,hU,hfx,vP,Vm,QU⟩
    have hb2:=HB.out.upd hx.x.lt hU
    refine HK.out _ _ (.inr (aA hb2.top 6)) ?_
    clear HK hS
    (try simp only[Act.put,aW,aV,aU,aT,aS,aR])
    obtain⟨u2,w4,hrun,ho2,hg2,hk2⟩:=bS w2 44 (.slice uo bk.length uc) bk.length _ hb2.row hx2.x.upd.size b5 (by have:=HL.out;have:=iy.out;omega)
    obtain⟨o2,c2,rfl⟩:=aI ho2
    refine It.aD (i:=7) (by kernel_rfl) rfl rfl (λK hK=>?_)
    refine It.aB (λc h=>by cases h) ?_
    have HK:=hid hK
    clear hK
    go_simp
    have hb3:=aF hb2.top ((aH _ w2).alloc (aL _) (.cells #[ptr b5] 40))
    refine HK.out _ _ (.inr (aA hb3 6)) ?_
    clear HK
    (try simp only[Act.put,aW,aV,aU,aT,aS,aR])
    refine It.aD (i:=8) (by kernel_rfl) rfl rfl (λK hK=>?_)
    refine It.aB (λc h=>by cases h) ?_
    refine bO _ (.tmp 50) (.tmp 53) 44 44 rfl _ _ rfl rfl _ _ hrun ?_
    have t4:=(hg2.block _ (aY.1 hb3).1 (λe=>HB.out.ne _ e.symm rfl)).trans hb3
    have hS:_:=(aA t4 6:_=some (Value.slice uo bk.length uc))
    refine hK _ _ (.inr hS) ?_
    clear hK K hrun
    (try simp only[Act.put,aW,aV,aU,aT,aS,aR])
    refine It.aD (i:=9) (by kernel_rfl) rfl rfl (λK hK=>?_)
    refine It.aB (λc h=>by cases h) ?_
    have HK:=hid hK
    clear hK
    go_simp
    refine HK.out _ _ (.inr hS) ?_
    clear HK
    (try simp only[Act.put,aW,aV,aU,aT,aS,aR])
    refine It.aD (i:=10) (by kernel_rfl) rfl rfl (λK hK=>?_)
    refine It.aB (λc h=>by cases h) ?_
    have HK:=hid hK
    clear hK
    go_simp
    refine HK.out _ _ (.inr hS) ?_
    clear HK
    (try simp only[Act.put,aW,aV,aU,aT,aS,aR])
    refine It.aD (i:=11) (by kernel_rfl) rfl rfl (λK hK=>?_)
    refine It.aB (λc h=>by cases h) ?_
    have HK:=hid hK
    clear hK
    have zz:=aC t4 6
    go_simp
    have hx3:=Rt.append hx2 hU hx.x.upd.size HB.out hfx ho2 hg2 hk2
    refine HK.out _ _ (.inl rfl) ?_
    clear HK
    (try simp only[Act.put,aW,aV,aU,aT,aS,aR])
    replace hx:=hx3
    clear hx3 hx2 hU hfx HB HL hb2 hb3 t4 zz hS ho2 hg2 hk2
    refine It.bQ (by kernel_rfl) ?_ _
    clear iy
    go_wp2_with fail
    go_ret
    exact hx.res (ay ..) (hc3 _ _ (by rw[g2];exact vP)) (dD (by decide) (by decide))
   ·cases mW with
    | error e=>cases g2
    | ok s4=>
     go_upto_region 7 with(go_at_call 11;(with_reducible refine(Rt.lX hx _ (by decide) g2).mono ?_);rintro x w2 ⟨rfl,hw⟩;(have hw':=hw.symm);subst hw';clear hw)
     have iy:=hid (show Fo.len ((Fo.nil.app (Fo.one m2 k2)).app (Fo.one m3 k3))<=6010 by show (_:Nat)<=6010;simp[Fo.app,Fo.len,Fo.one])
     obtain⟨u,bk,hbr⟩:=Bt.of (hx.x.ts (b1,Fo.one ⟨9,y.a,⟨#[]⟩,0,0⟩ ((Fo.nil.app (Fo.one m2 k2)).app (Fo.one m3 k3))) (by simp))
     have hlen:=cZ.len hbr.kids
     obtain⟨uo,uc,rfl⟩:=hbr.slice
     replace hx:=hx.drew
     have HB:=hid (hbr.upd hx.x.lt (It.bL.of_below (aH _ _).drew))
     have HL:=hid hlen
     clear hbr hlen
     refine It.bM (z:=11) (S:=λw'=>w'.cell? ⟨b1,6,none⟩=some (Value.slice uo bk.length uc)) (by kernel_rfl) ?_
     have hS:_:=(aA HB.out.top 6:_=some (Value.slice uo bk.length uc))
     iterate 6 ((refine It.nL 0 ?_ rfl (by kernel_rfl) (λ_ _ _ h=>h) (Or.inl ⟨by rfl,?_⟩) hS ?_);rotate_left;(focus (intro w' hSw;go_simp;(try with_reducible rfl)));(try simp only[Act.put,aW,aV,aU,aT,aS,aR]))
     refine It.aD (i:=6) (by kernel_rfl) rfl rfl (λK hK=>?_)
     refine It.aB (λc h=>by cases h) ?_
     have HK:=hid hK
     clear hK
     go_simp
     refine(Rt.jZ hx (cc (mu (.ok s4)) (HD4.out s4 rfl)) (aL _)).mono ?_
     rintro e w2 ⟨b5,m5,k5,mM,y5,rfl,hx2,hU,hfx,vP,Vm,QU⟩
     have hb2:=HB.out.upd hx.x.lt hU
     refine HK.out _ _ (.inr (aA hb2.top 6)) ?_
     clear HK hS
     (try simp only[Act.put,aW,aV,aU,aT,aS,aR])
     obtain⟨u2,w4,hrun,ho2,hg2,hk2⟩:=bS w2 44 (.slice uo bk.length uc) bk.length _ hb2.row hx2.x.upd.size b5 (by have:=HL.out;have:=iy.out;omega)
     obtain⟨o2,c2,rfl⟩:=aI ho2
     refine It.aD (i:=7) (by kernel_rfl) rfl rfl (λK hK=>?_)
     refine It.aB (λc h=>by cases h) ?_
     have HK:=hid hK
     clear hK
     go_simp
     have hb3:=aF hb2.top ((aH _ w2).alloc (aL _) (.cells #[ptr b5] 40))
     refine HK.out _ _ (.inr (aA hb3 6)) ?_
     clear HK
     (try simp only[Act.put,aW,aV,aU,aT,aS,aR])
     refine It.aD (i:=8) (by kernel_rfl) rfl rfl (λK hK=>?_)
     refine It.aB (λc h=>by cases h) ?_
     refine bO _ (.tmp 39) (.tmp 42) 44 44 rfl _ _ rfl rfl _ _ hrun ?_
     have t4:=(hg2.block _ (aY.1 hb3).1 (λe=>HB.out.ne _ e.symm rfl)).trans hb3
     have hS:_:=(aA t4 6:_=some (Value.slice uo bk.length uc))
     refine hK _ _ (.inr hS) ?_
     clear hK K hrun
     (try simp only[Act.put,aW,aV,aU,aT,aS,aR])
     refine It.aD (i:=9) (by kernel_rfl) rfl rfl (λK hK=>?_)
     refine It.aB (λc h=>by cases h) ?_
     have HK:=hid hK
     clear hK
     go_simp
     refine HK.out _ _ (.inr hS) ?_
     clear HK
     (try simp only[Act.put,aW,aV,aU,aT,aS,aR])
     refine It.aD (i:=10) (by kernel_rfl) rfl rfl (λK hK=>?_)
     refine It.aB (λc h=>by cases h) ?_
     have HK:=hid hK
     clear hK
     go_simp
     refine HK.out _ _ (.inr hS) ?_
     clear HK
     (try simp only[Act.put,aW,aV,aU,aT,aS,aR])
     refine It.aD (i:=11) (by kernel_rfl) rfl rfl (λK hK=>?_)
     refine It.aB (λc h=>by cases h) ?_
     have HK:=hid hK
     clear hK
     have zz:=aC t4 6
     go_simp
     have hx3:=Rt.append hx2 hU hx.x.upd.size HB.out hfx ho2 hg2 hk2
     refine HK.out _ _ (.inl rfl) ?_
     clear HK
     (try simp only[Act.put,aW,aV,aU,aT,aS,aR])
     replace hx:=hx3
     clear hx3 hx2 hU hfx HB HL hb2 hb3 t4 zz hS ho2 hg2 hk2
     refine It.bQ (by kernel_rfl) ?_ _
     clear iy
     go_wp2_with fail
     go_ret
     exact hx.res (ay ..) (hc3 _ _ (by rw[g2];exact vP)) (dD (by decide) (by decide))
theorem Rt.SE{W0 W:World}{rb:Nat}{l:ByteArray}{st:Se}{y:Yd}{L:List (Nat × Fo)}{M:List (Nat × Yd)}(h:Rt W0 W rb l st y L M)(k a:Int)(t:ByteArray):Calls prog 9 #[.int .i64 k,.int .i64 a,.string t,.slice none 0 0] W λx w'=>∃b,x=.returned (ptr b)/\Rt W0 w' rb l st y L M/\It.bL (λk=>k=rb) W w'/\cZ w' (λk=>W.heap.size<=k) [b] (Fo.one ⟨k,a,t,0,0⟩ .nil):=by
 refine(oh k a t none 0 0 W).mono ?_
 rintro x w' ⟨hx,rfl⟩
 have hB:Below W.heap.size W (W.alloc (.cells (oI ⟨k,a,t,0,0⟩ (.slice none 0 0)) 46)):=(aH _ W).alloc (aL _) _
 exact⟨_,hx,h.alloc _,It.bL.of_below hB,(h.x.gP.om hB (aL _) (World.alloc_heap_new W _)).ts _ (ay ..)⟩
theorem Rt.mH{W0 W:World}{rb:Nat}{l:ByteArray}{st:Se}{y:Yd}{L:List (Nat × Fo)}{M:List (Nat × Yd)}(h:Rt W0 W rb l st y L M):∀t,Tr.mH st=some t->t=y:=by
 intro t e
 cases st with
 | error f=>cases e
 | ok s=>
  have:some (qA s)=some t:=e
  rw[(dS h.ok).1] at this
  exact(Option.some.inj this).symm
theorem su{st:Se}{y:Yd}(hs:∀s,st=.ok s->look s=.ok y)(h:bR dU st=true):bR dZ st=false:=by
 cases st with
 | error e=>rfl
 | ok s=>
  have q:=(ak (hs s rfl)).1 h
  cases g:bR dZ (.ok s) with
  | false=>rfl
  | true=>
   have q2:=(ak (hs s rfl)).1 g
   rw[q] at q2
   exact absurd q2 (by decide)
theorem QA{s:Cs}{st2 gT:Se}{y:Yd}{e b:Fo}(hs:look s=.ok y)(hw:bR dU (.ok s)=true)(h2:aO .ex (bJ (.ok s)) st2 (some e))(h3:aO .bl st2 gT (some b)):aO (if bR dZ (.ok s)=true then .fr else .wh) (.ok s) gT (some (Fo.one ⟨10,y.a,⟨#[]⟩,0,0⟩ (e.app b))):=by
 rw[su (λx e=>by cases e;exact hs) hw,if_neg (by decide)]
 exact QB hs (gF hs hw).symm h2 h3 (λv c e1 e2=>by cases e1;cases e2;rfl)
theorem VU{st mW zi Jo:Se}{y:Yd}{f g b:Option Fo}(hs:∀s,st=.ok s->look s=.ok y)(h4:aO .ex (aN k_in (bP (aN dZ st))) mW f)(h6:aO .ex (aN qx mW) zi g)(h7:aO .bl zi Jo b):∀x,Jo=.ok x->bR dZ st=true:=by
 intro x e
 obtain⟨x6,e6⟩:=h7.ok e
 obtain⟨x5,e5⟩:=h6.ok e6
 obtain⟨x4,e4⟩:=gY e5
 obtain⟨x3,e3⟩:=h4.ok e4
 obtain⟨x2,e2⟩:=gY e3
 obtain⟨x1,e1⟩:=vN e2
 cases q:bR dZ st with
 | true=>rfl
 | false=>
  unfold aN at e1
  rw[q,if_neg (by decide)] at e1
  cases st with
  | error e=>cases e1
  | ok s=>cases e1
theorem QM{st mW zi Jo:Se}{y z:Yd}{f g b:Fo}(hs:∀s,st=.ok s->look s=.ok y)(hw:bR dU st=false)(hz:∀t,mH (aN dZ st)=some t->t=z)(h4:aO .ex (aN k_in (bP (aN dZ st))) mW (some f))(h6:aO .ex (aN qx mW) zi (some g))(h7:aO .bl zi Jo (some b)):aO (if bR dZ st=true then .fr else .wh) st Jo (some (Fo.one ⟨11,y.a,z.t.text,0,0⟩ ((f.app g).app b))):=by
 cases st with
 | error e=>
  have a4:=h4.errs e rfl
  rw[a4] at h6
  have a6:=h6.errs e rfl
  exact h7.errs e a6
 | ok s=>
  cases hf:bR dZ (.ok s) with
  | true=>
   rw[if_pos rfl]
   exact Vw (hs s rfl) rfl rfl rfl h4 rfl h6 h7 (λt f g b e1 e2 e3 e4=>by cases e2;cases e3;cases e4;rw[hz t e1])
  | false=>
   rw[if_neg (by decide)]
   have hq:=jA (hs s rfl) hf
   rw[hq] at h4
   have a4:=h4.errs _ rfl
   rw[a4] at h6
   have a6:=h6.errs _ rfl
   have a7:=h7.errs _ a6
   rw[a7]
   exact(QB (hs s rfl) (st1:=.error (70,y.a)) (st2:=.error (70,y.a)) (jA (hs s rfl) hw).symm aO.bad (b?:=some .nil) (e?:=some .nil) (o:=some (Fo.one (kT 10 y) (Fo.nil.app .nil))) aO.bad (λv c e1 e2=>by cases e1;cases e2;rfl)).other
theorem KO{w:World}{tb:Nat}{z:Yd}(h:w.heap[tb]? = some (.cells (dA z) 36 (0,0))):w.cell? ⟨tb,2,none⟩=some (.string z.t.text):=aA h 2
def N9(W:World)(rb:Nat)(l:ByteArray)(st:Se)(e:Ending)(w':World):Prop:=qH W rb l (if bR dZ st=true then .fr else .wh) st e w'
def Po(W:World)(rb:Nat)(l:ByteArray)(z:Yd)(st:Se)(e:Ending)(w':World):Prop:=∃b m ks st' y' r?,e=.returned (ptr b)/\Rx W w' rb l st' y' [(b,Fo.one m ks)]/\aO (if bR dZ st=true then .fr else .wh) st st' r? /\ (∀x,st'=.ok x->r?.map (lbF z (bR dZ st))=some (Fo.one m ks))/\CT m ks
theorem Dr{W:World}{rb n:Nat}{l:ByteArray}{s:Cs}{y:Yd}(ce:vT 71 .ex n)(cb:vT 26 .bl n)(hx0:Rx W W rb l (.ok s) y [])(hn:mu (.ok s)<=n)(g:bR dU (.ok s)=true):Calls prog 73 #[ptr rb,.pointer none] W (N9 W rb l (.ok s)):=by
 have hx:=Rt.start hx0
 have HY:=hid hx.ok
 have HN:=hid hn
 obtain⟨_,_,c2,_,_,_⟩:=hx.cells
 clear hx0 hn
 go_enter func73,ntmps73
 go_upto_region 7 with(first|(go_at_call 11;(with_reducible refine(Rt.lX hx _ (by decide) g).mono ?_);rintro x w2 ⟨rfl,hw⟩;(have hw':=hw.symm);subst hw';clear hw)|(go_at_call 12;(with_reducible refine(Rt.stepT hx dU (by decide) g).mono ?_);rintro x w2 ⟨rfl,y2,hx2,q2⟩;(replace hx:=hx2);clear hx2)|(go_at_call 9;(with_reducible refine(Rt.nd0 hx _ _ _).mono ?_);rintro x w2 ⟨b1,rfl,hx2⟩;(replace hx:=hx2);clear hx2))
 have HD1:=hid (oH.lt (n:=n) (st:=bJ (.ok s)) (by have:=HN.out;omega))
 have iy:=hid (show Fo.len Fo.nil<=6010 by show (_:Nat)<=6010;simp[Fo.app,Fo.len,Fo.one])
 obtain⟨u,bk,hbr⟩:=Bt.of (hx.x.ts (b1,Fo.one ⟨10,y.a,⟨#[]⟩,0,0⟩ Fo.nil) (by simp))
 have hlen:=cZ.len hbr.kids
 obtain⟨uo,uc,rfl⟩:=hbr.slice
 replace hx:=hx.drew
 have HB:=hid (hbr.upd hx.x.lt (It.bL.of_below (aH _ _).drew))
 have HL:=hid hlen
 clear hbr hlen
 refine It.bM (z:=11) (S:=λw'=>w'.cell? ⟨b1,6,none⟩=some (Value.slice uo bk.length uc)) (by kernel_rfl) ?_
 have hS:_:=(aA HB.out.top 6:_=some (Value.slice uo bk.length uc))
 iterate 6 ((refine It.nL 0 ?_ rfl (by kernel_rfl) (λ_ _ _ h=>h) (Or.inl ⟨by rfl,?_⟩) hS ?_);rotate_left;(focus (intro w' hSw;go_simp;(try with_reducible rfl)));(try simp only[Act.put,aW,aV,aU,aT,aS,aR]))
 refine It.aD (i:=6) (by kernel_rfl) rfl rfl (λK hK=>?_)
 refine It.aB (λc h=>by cases h) ?_
 have HK:=hid hK
 clear hK
 go_simp
 refine(Rt.jq hx ce HD1.out).mono ?_
 rintro e w2 ⟨b3,m3,k3,gT,y3,rfl,hx2,hU,hfx,ho3,hc3,xw⟩
 have hb2:=HB.out.upd hx.x.lt hU
 refine HK.out _ _ (.inr (aA hb2.top 6)) ?_
 clear HK hS
 (try simp only[Act.put,aW,aV,aU,aT,aS,aR])
 obtain⟨u2,w4,hrun,ho2,hg2,hk2⟩:=bS w2 44 (.slice uo bk.length uc) bk.length _ hb2.row hx2.x.upd.size b3 (by have:=HL.out;have:=iy.out;omega)
 obtain⟨o2,c2,rfl⟩:=aI ho2
 refine It.aD (i:=7) (by kernel_rfl) rfl rfl (λK hK=>?_)
 refine It.aB (λc h=>by cases h) ?_
 have HK:=hid hK
 clear hK
 go_simp
 have hb3:=aF hb2.top ((aH _ w2).alloc (aL _) (.cells #[ptr b3] 40))
 refine HK.out _ _ (.inr (aA hb3 6)) ?_
 clear HK
 (try simp only[Act.put,aW,aV,aU,aT,aS,aR])
 refine It.aD (i:=8) (by kernel_rfl) rfl rfl (λK hK=>?_)
 refine It.aB (λc h=>by cases h) ?_
 refine bO _ (.tmp 34) (.tmp 37) 44 44 rfl _ _ rfl rfl _ _ hrun ?_
 have t4:=(hg2.block _ (aY.1 hb3).1 (λe=>HB.out.ne _ e.symm rfl)).trans hb3
 have hS:_:=(aA t4 6:_=some (Value.slice uo bk.length uc))
 refine hK _ _ (.inr hS) ?_
 clear hK K hrun
 (try simp only[Act.put,aW,aV,aU,aT,aS,aR])
 refine It.aD (i:=9) (by kernel_rfl) rfl rfl (λK hK=>?_)
 refine It.aB (λc h=>by cases h) ?_
 have HK:=hid hK
 clear hK
 go_simp
 refine HK.out _ _ (.inr hS) ?_
 clear HK
 (try simp only[Act.put,aW,aV,aU,aT,aS,aR])
 refine It.aD (i:=10) (by kernel_rfl) rfl rfl (λK hK=>?_)
 refine It.aB (λc h=>by cases h) ?_
 have HK:=hid hK
 clear hK
 go_simp
 refine HK.out _ _ (.inr hS) ?_
 clear HK
 (try simp only[Act.put,aW,aV,aU,aT,aS,aR])
 refine It.aD (i:=11) (by kernel_rfl) rfl rfl (λK hK=>?_)
 refine It.aB (λc h=>by cases h) ?_
 have HK:=hid hK
 clear hK
 have zz:=aC t4 6
 go_simp
 have hx3:=Rt.append hx2 hU hx.x.upd.size HB.out hfx ho2 hg2 hk2
 refine HK.out _ _ (.inl rfl) ?_
 clear HK
 (try simp only[Act.put,aW,aV,aU,aT,aS,aR])
 replace hx:=hx3
 clear hx3 hx2 hU hfx HB HL hb2 hb3 t4 zz hS ho2 hg2 hk2
 refine It.bQ (by kernel_rfl) ?_ _
 clear iy
 have HD2:=hid (HD1.out.out ho3)
 go_upto_region 8 with fail
 have iy:=hid (show Fo.len (Fo.nil.app (Fo.one m3 k3))<=6010 by show (_:Nat)<=6010;simp[Fo.app,Fo.len,Fo.one])
 obtain⟨u,bk,hbr⟩:=Bt.of (hx.x.ts (b1,Fo.one ⟨10,y.a,⟨#[]⟩,0,0⟩ (Fo.nil.app (Fo.one m3 k3))) (by simp))
 have hlen:=cZ.len hbr.kids
 obtain⟨uo,uc,rfl⟩:=hbr.slice
 replace hx:=hx.drew
 have HB:=hid (hbr.upd hx.x.lt (It.bL.of_below (aH _ _).drew))
 have HL:=hid hlen
 clear hbr hlen
 refine It.bM (z:=11) (S:=λw'=>w'.cell? ⟨b1,6,none⟩=some (Value.slice uo bk.length uc)) (by kernel_rfl) ?_
 have hS:_:=(aA HB.out.top 6:_=some (Value.slice uo bk.length uc))
 iterate 6 ((refine It.nL 0 ?_ rfl (by kernel_rfl) (λ_ _ _ h=>h) (Or.inl ⟨by rfl,?_⟩) hS ?_);rotate_left;(focus (intro w' hSw;go_simp;(try with_reducible rfl)));(try simp only[Act.put,aW,aV,aU,aT,aS,aR]))
 refine It.aD (i:=6) (by kernel_rfl) rfl rfl (λK hK=>?_)
 refine It.aB (λc h=>by cases h) ?_
 have HK:=hid hK
 clear hK
 go_simp
 refine(Rt.jq hx cb HD2.out).mono ?_
 rintro e w2 ⟨b4,m4,k4,mW,y4,rfl,hx2,hU,hfx,Ow,hc4,hm4⟩
 have hb2:=HB.out.upd hx.x.lt hU
 refine HK.out _ _ (.inr (aA hb2.top 6)) ?_
 clear HK hS
 (try simp only[Act.put,aW,aV,aU,aT,aS,aR])
 obtain⟨u2,w4,hrun,ho2,hg2,hk2⟩:=bS w2 44 (.slice uo bk.length uc) bk.length _ hb2.row hx2.x.upd.size b4 (by have:=HL.out;have:=iy.out;omega)
 obtain⟨o2,c2,rfl⟩:=aI ho2
 refine It.aD (i:=7) (by kernel_rfl) rfl rfl (λK hK=>?_)
 refine It.aB (λc h=>by cases h) ?_
 have HK:=hid hK
 clear hK
 go_simp
 have hb3:=aF hb2.top ((aH _ w2).alloc (aL _) (.cells #[ptr b4] 40))
 refine HK.out _ _ (.inr (aA hb3 6)) ?_
 clear HK
 (try simp only[Act.put,aW,aV,aU,aT,aS,aR])
 refine It.aD (i:=8) (by kernel_rfl) rfl rfl (λK hK=>?_)
 refine It.aB (λc h=>by cases h) ?_
 refine bO _ (.tmp 45) (.tmp 48) 44 44 rfl _ _ rfl rfl _ _ hrun ?_
 have t4:=(hg2.block _ (aY.1 hb3).1 (λe=>HB.out.ne _ e.symm rfl)).trans hb3
 have hS:_:=(aA t4 6:_=some (Value.slice uo bk.length uc))
 refine hK _ _ (.inr hS) ?_
 clear hK K hrun
 (try simp only[Act.put,aW,aV,aU,aT,aS,aR])
 refine It.aD (i:=9) (by kernel_rfl) rfl rfl (λK hK=>?_)
 refine It.aB (λc h=>by cases h) ?_
 have HK:=hid hK
 clear hK
 go_simp
 refine HK.out _ _ (.inr hS) ?_
 clear HK
 (try simp only[Act.put,aW,aV,aU,aT,aS,aR])
 refine It.aD (i:=10) (by kernel_rfl) rfl rfl (λK hK=>?_)
 refine It.aB (λc h=>by cases h) ?_
 have HK:=hid hK
 clear hK
 go_simp
 refine HK.out _ _ (.inr hS) ?_
 clear HK
 (try simp only[Act.put,aW,aV,aU,aT,aS,aR])
 refine It.aD (i:=11) (by kernel_rfl) rfl rfl (λK hK=>?_)
 refine It.aB (λc h=>by cases h) ?_
 have HK:=hid hK
 clear hK
 have zz:=aC t4 6
 go_simp
 have hx3:=Rt.append hx2 hU hx.x.upd.size HB.out hfx ho2 hg2 hk2
 refine HK.out _ _ (.inl rfl) ?_
 clear HK
 (try simp only[Act.put,aW,aV,aU,aT,aS,aR])
 replace hx:=hx3
 clear hx3 hx2 hU hfx HB HL hb2 hb3 t4 zz hS ho2 hg2 hk2
 refine It.bQ (by kernel_rfl) ?_ _
 clear iy
 go_wp2_with fail
 go_ret
 exact show qH _ _ _ _ _ _ _ from hx.res (ay ..) (QA HY.out g ho3 Ow) (dD (by decide) (by decide))
theorem Gv{W:World}{rb n:Nat}{l:ByteArray}{s:Cs}{y:Yd}(ce:vT 71 .ex n)(cb:vT 26 .bl n)(hx0:Rx W W rb l (.ok s) y [])(hn:mu (.ok s)<=n){tb:Nat}{z:Yd}(htb:W.heap[tb]? = some (.cells (dA z) 36 (0,0)))(hne:tb≠rb)(g:bR dU (.ok s)=true):Calls prog 73 #[ptr rb,ptr tb] W (Po W rb l z (.ok s)):=by
 have hx:=Rt.start hx0
 have HY:=hid hx.ok
 have HN:=hid hn
 obtain⟨_,_,c2,_,_,_⟩:=hx.cells
 clear hx0 hn
 have hlt:∀w,It.bL (λk=>k=rb) W w->w.heap[tb]? = some (.cells (dA z) 36 (0,0)):=λw hu=>(hu.block tb (aY.1 htb).1 hne).trans htb
 have HLT:=hid hlt
 have htl:=(aY.1 htb).1
 clear hlt htb
 go_enter func73,ntmps73
 go_upto_region 6 with(first|(go_at_call 11;(with_reducible refine(Rt.lX hx _ (by decide) g).mono ?_);rintro x w2 ⟨rfl,hw⟩;(have hw':=hw.symm);subst hw';clear hw)|(go_at_call 12;(with_reducible refine(Rt.stepT hx dU (by decide) g).mono ?_);rintro x w2 ⟨rfl,y2,hx2,q2⟩;(replace hx:=hx2);clear hx2)|(go_at_call 9;(with_reducible refine(Rt.nd0 hx _ _ _).mono ?_);rintro x w2 ⟨b1,rfl,hx2⟩;(replace hx:=hx2);clear hx2))
 have HD1:=hid (oH.lt (n:=n) (st:=bJ (.ok s)) (by have:=HN.out;omega))
 have e2:=KO (HLT.out _ hx.x.upd)
 obtain⟨u,hrow⟩:=hx.row (b:=b1) (ay ..)
 have zr:=aC hrow
 have er:=aA hrow
 have hx3:=hx.set (nd':=⟨10,y.a,z.t.text,0,0⟩) (b:=b1) (ay ..) 3 (.string z.t.text) (λu=>rfl)
 have HX:=hid hx3
 clear hrow hx hx3
 go_upto_region 7 with fail
 have hx:=HX.out
 clear HX zr er e2
 generalize World.setCell _ _ _=w8 at *
 have iy:=hid (show Fo.len Fo.nil<=6010 by show (_:Nat)<=6010;simp[Fo.app,Fo.len,Fo.one])
 obtain⟨u,bk,hbr⟩:=Bt.of (hx.x.ts (b1,Fo.one ⟨10,y.a,z.t.text,0,0⟩ Fo.nil) (by simp))
 have hlen:=cZ.len hbr.kids
 obtain⟨uo,uc,rfl⟩:=hbr.slice
 replace hx:=hx.drew
 have HB:=hid (hbr.upd hx.x.lt (It.bL.of_below (aH _ _).drew))
 have HL:=hid hlen
 clear hbr hlen
 refine It.bM (z:=11) (S:=λw'=>w'.cell? ⟨b1,6,none⟩=some (Value.slice uo bk.length uc)) (by kernel_rfl) ?_
 have hS:_:=(aA HB.out.top 6:_=some (Value.slice uo bk.length uc))
 iterate 6 ((refine It.nL 0 ?_ rfl (by kernel_rfl) (λ_ _ _ h=>h) (Or.inl ⟨by rfl,?_⟩) hS ?_);rotate_left;(focus (intro w' hSw;go_simp;(try with_reducible rfl)));(try simp only[Act.put,aW,aV,aU,aT,aS,aR]))
 refine It.aD (i:=6) (by kernel_rfl) rfl rfl (λK hK=>?_)
 refine It.aB (λc h=>by cases h) ?_
 have HK:=hid hK
 clear hK
 go_simp
 refine(Rt.jq hx ce HD1.out).mono ?_
 rintro e w2 ⟨b3,m3,k3,gT,y3,rfl,hx2,hU,hfx,ho3,hc3,xw⟩
 have hb2:=HB.out.upd hx.x.lt hU
 refine HK.out _ _ (.inr (aA hb2.top 6)) ?_
 clear HK hS
 (try simp only[Act.put,aW,aV,aU,aT,aS,aR])
 obtain⟨u2,w4,hrun,ho2,hg2,hk2⟩:=bS w2 44 (.slice uo bk.length uc) bk.length _ hb2.row hx2.x.upd.size b3 (by have:=HL.out;have:=iy.out;omega)
 obtain⟨o2,c2,rfl⟩:=aI ho2
 refine It.aD (i:=7) (by kernel_rfl) rfl rfl (λK hK=>?_)
 refine It.aB (λc h=>by cases h) ?_
 have HK:=hid hK
 clear hK
 go_simp
 have hb3:=aF hb2.top ((aH _ w2).alloc (aL _) (.cells #[ptr b3] 40))
 refine HK.out _ _ (.inr (aA hb3 6)) ?_
 clear HK
 (try simp only[Act.put,aW,aV,aU,aT,aS,aR])
 refine It.aD (i:=8) (by kernel_rfl) rfl rfl (λK hK=>?_)
 refine It.aB (λc h=>by cases h) ?_
 refine bO _ (.tmp 34) (.tmp 37) 44 44 rfl _ _ rfl rfl _ _ hrun ?_
 have t4:=(hg2.block _ (aY.1 hb3).1 (λe=>HB.out.ne _ e.symm rfl)).trans hb3
 have hS:_:=(aA t4 6:_=some (Value.slice uo bk.length uc))
 refine hK _ _ (.inr hS) ?_
 clear hK K hrun
 (try simp only[Act.put,aW,aV,aU,aT,aS,aR])
 refine It.aD (i:=9) (by kernel_rfl) rfl rfl (λK hK=>?_)
 refine It.aB (λc h=>by cases h) ?_
 have HK:=hid hK
 clear hK
 go_simp
 refine HK.out _ _ (.inr hS) ?_
 clear HK
 (try simp only[Act.put,aW,aV,aU,aT,aS,aR])
 refine It.aD (i:=10) (by kernel_rfl) rfl rfl (λK hK=>?_)
 refine It.aB (λc h=>by cases h) ?_
 have HK:=hid hK
 clear hK
 go_simp
 refine HK.out _ _ (.inr hS) ?_
 clear HK
 (try simp only[Act.put,aW,aV,aU,aT,aS,aR])
 refine It.aD (i:=11) (by kernel_rfl) rfl rfl (λK hK=>?_)
 refine It.aB (λc h=>by cases h) ?_
 have HK:=hid hK
 clear hK
 have zz:=aC t4 6
 go_simp
 have hx3:=Rt.append hx2 hU hx.x.upd.size HB.out hfx ho2 hg2 hk2
 refine HK.out _ _ (.inl rfl) ?_
 clear HK
 (try simp only[Act.put,aW,aV,aU,aT,aS,aR])
 replace hx:=hx3
 clear hx3 hx2 hU hfx HB HL hb2 hb3 t4 zz hS ho2 hg2 hk2
 refine It.bQ (by kernel_rfl) ?_ _
 clear iy
 have HD2:=hid (HD1.out.out ho3)
 go_upto_region 8 with fail
 have iy:=hid (show Fo.len (Fo.nil.app (Fo.one m3 k3))<=6010 by show (_:Nat)<=6010;simp[Fo.app,Fo.len,Fo.one])
 obtain⟨u,bk,hbr⟩:=Bt.of (hx.x.ts (b1,Fo.one ⟨10,y.a,z.t.text,0,0⟩ (Fo.nil.app (Fo.one m3 k3))) (by simp))
 have hlen:=cZ.len hbr.kids
 obtain⟨uo,uc,rfl⟩:=hbr.slice
 replace hx:=hx.drew
 have HB:=hid (hbr.upd hx.x.lt (It.bL.of_below (aH _ _).drew))
 have HL:=hid hlen
 clear hbr hlen
 refine It.bM (z:=11) (S:=λw'=>w'.cell? ⟨b1,6,none⟩=some (Value.slice uo bk.length uc)) (by kernel_rfl) ?_
 have hS:_:=(aA HB.out.top 6:_=some (Value.slice uo bk.length uc))
 iterate 6 ((refine It.nL 0 ?_ rfl (by kernel_rfl) (λ_ _ _ h=>h) (Or.inl ⟨by rfl,?_⟩) hS ?_);rotate_left;(focus (intro w' hSw;go_simp;(try with_reducible rfl)));(try simp only[Act.put,aW,aV,aU,aT,aS,aR]))
 refine It.aD (i:=6) (by kernel_rfl) rfl rfl (λK hK=>?_)
 refine It.aB (λc h=>by cases h) ?_
 have HK:=hid hK
 clear hK
 go_simp
 refine(Rt.jq hx cb HD2.out).mono ?_
 rintro e w2 ⟨b4,m4,k4,mW,y4,rfl,hx2,hU,hfx,Ow,hc4,hm4⟩
 have hb2:=HB.out.upd hx.x.lt hU
 refine HK.out _ _ (.inr (aA hb2.top 6)) ?_
 clear HK hS
 (try simp only[Act.put,aW,aV,aU,aT,aS,aR])
 obtain⟨u2,w4,hrun,ho2,hg2,hk2⟩:=bS w2 44 (.slice uo bk.length uc) bk.length _ hb2.row hx2.x.upd.size b4 (by have:=HL.out;have:=iy.out;omega)
 obtain⟨o2,c2,rfl⟩:=aI ho2
 refine It.aD (i:=7) (by kernel_rfl) rfl rfl (λK hK=>?_)
 refine It.aB (λc h=>by cases h) ?_
 have HK:=hid hK
 clear hK
 go_simp
 have hb3:=aF hb2.top ((aH _ w2).alloc (aL _) (.cells #[ptr b4] 40))
 refine HK.out _ _ (.inr (aA hb3 6)) ?_
 clear HK
 (try simp only[Act.put,aW,aV,aU,aT,aS,aR])
 refine It.aD (i:=8) (by kernel_rfl) rfl rfl (λK hK=>?_)
 refine It.aB (λc h=>by cases h) ?_
 refine bO _ (.tmp 45) (.tmp 48) 44 44 rfl _ _ rfl rfl _ _ hrun ?_
 have t4:=(hg2.block _ (aY.1 hb3).1 (λe=>HB.out.ne _ e.symm rfl)).trans hb3
 have hS:_:=(aA t4 6:_=some (Value.slice uo bk.length uc))
 refine hK _ _ (.inr hS) ?_
 clear hK K hrun
 (try simp only[Act.put,aW,aV,aU,aT,aS,aR])
 refine It.aD (i:=9) (by kernel_rfl) rfl rfl (λK hK=>?_)
 refine It.aB (λc h=>by cases h) ?_
 have HK:=hid hK
 clear hK
 go_simp
 refine HK.out _ _ (.inr hS) ?_
 clear HK
 (try simp only[Act.put,aW,aV,aU,aT,aS,aR])
 refine It.aD (i:=10) (by kernel_rfl) rfl rfl (λK hK=>?_)
 refine It.aB (λc h=>by cases h) ?_
 have HK:=hid hK
 clear hK
 go_simp
 refine HK.out _ _ (.inr hS) ?_
 clear HK
 (try simp only[Act.put,aW,aV,aU,aT,aS,aR])
 refine It.aD (i:=11) (by kernel_rfl) rfl rfl (λK hK=>?_)
 refine It.aB (λc h=>by cases h) ?_
 have HK:=hid hK
 clear hK
 have zz:=aC t4 6
 go_simp
 have hx3:=Rt.append hx2 hU hx.x.upd.size HB.out hfx ho2 hg2 hk2
 refine HK.out _ _ (.inl rfl) ?_
 clear HK
 (try simp only[Act.put,aW,aV,aU,aT,aS,aR])
 replace hx:=hx3
 clear hx3 hx2 hU hfx HB HL hb2 hb3 t4 zz hS ho2 hg2 hk2
 refine It.bQ (by kernel_rfl) ?_ _
 clear iy
 go_wp2_with fail
 go_ret
 refine⟨_,_,_,_,_,_,rfl,hx.top.x,QA HY.out g ho3 Ow,λx e=>?_,dD (by decide) (by decide)⟩
 rw[su (λx e=>by cases e;exact HY.out) g]
 rfl
theorem Ma{W:World}{rb n:Nat}{l:ByteArray}{st:Se}{y:Yd}(ce:vT 71 .ex n)(cb:vT 26 .bl n)(hx0:Rx W W rb l st y [])(hn:mu st<=n)(g:bR dU st=false):Calls prog 73 #[ptr rb,.pointer none] W (N9 W rb l st):=by
 have hx:=Rt.start hx0
 have HY:=hid hx.wN
 have HD1:=hid (oH.first dZ hx.wN hn)
 obtain⟨_,_,c2,_,_,_⟩:=hx.cells
 clear hx0 hn
 go_enter func73,ntmps73
 go_upto_region 11 with(first|(go_at_call 11;(with_reducible refine(Rt.nG hx _ (by decide) g).mono ?_);rintro x w2 ⟨rfl,hw⟩;(have hw':=hw.symm);subst hw';clear hw)|(go_at_call 14;(with_reducible refine(Rt.want hx _ (by decide)).mono ?_);rintro x w2 ⟨rfl,y1,hx2,q1⟩;(replace hx:=hx2);clear hx2))
 have HZ:=hid hx.mH
 have HD2:=hid (λq=>oH.name (st:=aN dZ st) HD1.out q)
 go_upto_region 12 with(go_at_call 13;(with_reducible refine(Rt.name hx).mono ?_);rintro x w2 ⟨rfl,y2,hx2,q2⟩;(replace hx:=hx2);clear hx2)
 obtain⟨tk,htk,jg⟩:=hx.mq y1
 rw[htk]
 (replace hx:=jg);clear jg htk
 generalize bY _ _=w9 at *
 obtain⟨t0,t1,t2,t3,t4⟩:=hx.tok (ay ..)
 go_upto_region 15 with(go_at_call 9;(with_reducible refine(Rt.nd0 hx _ _ _).mono ?_);rintro x w2 ⟨b1,rfl,hx2⟩;(replace hx:=hx2);clear hx2)
 clear t0 t1 t2 t3 t4
 have HD3:=hid (HD2.out q2)
 have HD4:=hid (λq=>oH.want (w:=k_in) HD3.out q)
 go_upto_region 16 with(go_at_call 14;(with_reducible refine(Rt.want hx _ (by decide)).mono ?_);rintro x w2 ⟨rfl,y4,hx2,q4⟩;(replace hx:=hx2);clear hx2)
 have HD5:=hid (HD4.out q4)
 have iy:=hid (show Fo.len Fo.nil<=6010 by show (_:Nat)<=6010;simp[Fo.app,Fo.len,Fo.one])
 obtain⟨u,bk,hbr⟩:=Bt.of (hx.x.ts (b1,Fo.one ⟨11,y.a,y1.t.text,0,0⟩ Fo.nil) (by simp))
 have hlen:=cZ.len hbr.kids
 obtain⟨uo,uc,rfl⟩:=hbr.slice
 replace hx:=hx.drew
 have HB:=hid (hbr.upd hx.x.lt (It.bL.of_below (aH _ _).drew))
 have HL:=hid hlen
 clear hbr hlen
 refine It.bM (z:=11) (S:=λw'=>w'.cell? ⟨b1,6,none⟩=some (Value.slice uo bk.length uc)) (by kernel_rfl) ?_
 have hS:_:=(aA HB.out.top 6:_=some (Value.slice uo bk.length uc))
 iterate 6 ((refine It.nL 0 ?_ rfl (by kernel_rfl) (λ_ _ _ h=>h) (Or.inl ⟨by rfl,?_⟩) hS ?_);rotate_left;(focus (intro w' hSw;go_simp;(try with_reducible rfl)));(try simp only[Act.put,aW,aV,aU,aT,aS,aR]))
 refine It.aD (i:=6) (by kernel_rfl) rfl rfl (λK hK=>?_)
 refine It.aB (λc h=>by cases h) ?_
 have HK:=hid hK
 clear hK
 go_simp
 refine(Rt.jq hx ce HD5.out).mono ?_
 rintro e w2 ⟨b5,m5,k5,mM,y5,rfl,hx2,hU,hfx,vP,Vm,QU⟩
 have hb2:=HB.out.upd hx.x.lt hU
 refine HK.out _ _ (.inr (aA hb2.top 6)) ?_
 clear HK hS
 (try simp only[Act.put,aW,aV,aU,aT,aS,aR])
 obtain⟨u2,w4,hrun,ho2,hg2,hk2⟩:=bS w2 44 (.slice uo bk.length uc) bk.length _ hb2.row hx2.x.upd.size b5 (by have:=HL.out;have:=iy.out;omega)
 obtain⟨o2,c2,rfl⟩:=aI ho2
 refine It.aD (i:=7) (by kernel_rfl) rfl rfl (λK hK=>?_)
 refine It.aB (λc h=>by cases h) ?_
 have HK:=hid hK
 clear hK
 go_simp
 have hb3:=aF hb2.top ((aH _ w2).alloc (aL _) (.cells #[ptr b5] 40))
 refine HK.out _ _ (.inr (aA hb3 6)) ?_
 clear HK
 (try simp only[Act.put,aW,aV,aU,aT,aS,aR])
 refine It.aD (i:=8) (by kernel_rfl) rfl rfl (λK hK=>?_)
 refine It.aB (λc h=>by cases h) ?_
 refine bO _ (.tmp 87) (.tmp 90) 44 44 rfl _ _ rfl rfl _ _ hrun ?_
 have t4:=(hg2.block _ (aY.1 hb3).1 (λe=>HB.out.ne _ e.symm rfl)).trans hb3
 have hS:_:=(aA t4 6:_=some (Value.slice uo bk.length uc))
 refine hK _ _ (.inr hS) ?_
 clear hK K hrun
 (try simp only[Act.put,aW,aV,aU,aT,aS,aR])
 refine It.aD (i:=9) (by kernel_rfl) rfl rfl (λK hK=>?_)
 refine It.aB (λc h=>by cases h) ?_
 have HK:=hid hK
 clear hK
 go_simp
 refine HK.out _ _ (.inr hS) ?_
 clear HK
 (try simp only[Act.put,aW,aV,aU,aT,aS,aR])
 refine It.aD (i:=10) (by kernel_rfl) rfl rfl (λK hK=>?_)
 refine It.aB (λc h=>by cases h) ?_
 have HK:=hid hK
 clear hK
 go_simp
 refine HK.out _ _ (.inr hS) ?_
 clear HK
 (try simp only[Act.put,aW,aV,aU,aT,aS,aR])
 refine It.aD (i:=11) (by kernel_rfl) rfl rfl (λK hK=>?_)
 refine It.aB (λc h=>by cases h) ?_
 have HK:=hid hK
 clear hK
 have zz:=aC t4 6
 go_simp
 have hx3:=Rt.append hx2 hU hx.x.upd.size HB.out hfx ho2 hg2 hk2
 refine HK.out _ _ (.inl rfl) ?_
 clear HK
 (try simp only[Act.put,aW,aV,aU,aT,aS,aR])
 replace hx:=hx3
 clear hx3 hx2 hU hfx HB HL hb2 hb3 t4 zz hS ho2 hg2 hk2
 refine It.bQ (by kernel_rfl) ?_ _
 clear iy
 have HD6:=hid (HD5.out.out vP)
 go_upto_region 17 with fail
 have HD7:=hid (λq=>oH.want (w:=qx) HD6.out q)
 go_upto_region 18 with(go_at_call 14;(with_reducible refine(Rt.want hx _ (by decide)).mono ?_);rintro x w2 ⟨rfl,y6,hx2,q6⟩;(replace hx:=hx2);clear hx2)
 have Pv:=hid (HD7.out q6)
 have iy:=hid (show Fo.len (Fo.nil.app (Fo.one m5 k5))<=6010 by show (_:Nat)<=6010;simp[Fo.app,Fo.len,Fo.one])
 obtain⟨u,bk,hbr⟩:=Bt.of (hx.x.ts (b1,Fo.one ⟨11,y.a,y1.t.text,0,0⟩ (Fo.nil.app (Fo.one m5 k5))) (by simp))
 have hlen:=cZ.len hbr.kids
 obtain⟨uo,uc,rfl⟩:=hbr.slice
 replace hx:=hx.drew
 have HB:=hid (hbr.upd hx.x.lt (It.bL.of_below (aH _ _).drew))
 have HL:=hid hlen
 clear hbr hlen
 refine It.bM (z:=11) (S:=λw'=>w'.cell? ⟨b1,6,none⟩=some (Value.slice uo bk.length uc)) (by kernel_rfl) ?_
 have hS:_:=(aA HB.out.top 6:_=some (Value.slice uo bk.length uc))
 iterate 6 ((refine It.nL 0 ?_ rfl (by kernel_rfl) (λ_ _ _ h=>h) (Or.inl ⟨by rfl,?_⟩) hS ?_);rotate_left;(focus (intro w' hSw;go_simp;(try with_reducible rfl)));(try simp only[Act.put,aW,aV,aU,aT,aS,aR]))
 refine It.aD (i:=6) (by kernel_rfl) rfl rfl (λK hK=>?_)
 refine It.aB (λc h=>by cases h) ?_
 have HK:=hid hK
 clear hK
 go_simp
 refine(Rt.jq hx ce Pv.out).mono ?_
 rintro e w2 ⟨b7,m7,k7,Jo,y7,rfl,hx2,hU,hfx,UR,hc7,hm7⟩
 have hb2:=HB.out.upd hx.x.lt hU
 refine HK.out _ _ (.inr (aA hb2.top 6)) ?_
 clear HK hS
 (try simp only[Act.put,aW,aV,aU,aT,aS,aR])
 obtain⟨u2,w4,hrun,ho2,hg2,hk2⟩:=bS w2 44 (.slice uo bk.length uc) bk.length _ hb2.row hx2.x.upd.size b7 (by have:=HL.out;have:=iy.out;omega)
 obtain⟨o2,c2,rfl⟩:=aI ho2
 refine It.aD (i:=7) (by kernel_rfl) rfl rfl (λK hK=>?_)
 refine It.aB (λc h=>by cases h) ?_
 have HK:=hid hK
 clear hK
 go_simp
 have hb3:=aF hb2.top ((aH _ w2).alloc (aL _) (.cells #[ptr b7] 40))
 refine HK.out _ _ (.inr (aA hb3 6)) ?_
 clear HK
 (try simp only[Act.put,aW,aV,aU,aT,aS,aR])
 refine It.aD (i:=8) (by kernel_rfl) rfl rfl (λK hK=>?_)
 refine It.aB (λc h=>by cases h) ?_
 refine bO _ (.tmp 100) (.tmp 103) 44 44 rfl _ _ rfl rfl _ _ hrun ?_
 have t4:=(hg2.block _ (aY.1 hb3).1 (λe=>HB.out.ne _ e.symm rfl)).trans hb3
 have hS:_:=(aA t4 6:_=some (Value.slice uo bk.length uc))
 refine hK _ _ (.inr hS) ?_
 clear hK K hrun
 (try simp only[Act.put,aW,aV,aU,aT,aS,aR])
 refine It.aD (i:=9) (by kernel_rfl) rfl rfl (λK hK=>?_)
 refine It.aB (λc h=>by cases h) ?_
 have HK:=hid hK
 clear hK
 go_simp
 refine HK.out _ _ (.inr hS) ?_
 clear HK
 (try simp only[Act.put,aW,aV,aU,aT,aS,aR])
 refine It.aD (i:=10) (by kernel_rfl) rfl rfl (λK hK=>?_)
 refine It.aB (λc h=>by cases h) ?_
 have HK:=hid hK
 clear hK
 go_simp
 refine HK.out _ _ (.inr hS) ?_
 clear HK
 (try simp only[Act.put,aW,aV,aU,aT,aS,aR])
 refine It.aD (i:=11) (by kernel_rfl) rfl rfl (λK hK=>?_)
 refine It.aB (λc h=>by cases h) ?_
 have HK:=hid hK
 clear hK
 have zz:=aC t4 6
 go_simp
 have hx3:=Rt.append hx2 hU hx.x.upd.size HB.out hfx ho2 hg2 hk2
 refine HK.out _ _ (.inl rfl) ?_
 clear HK
 (try simp only[Act.put,aW,aV,aU,aT,aS,aR])
 replace hx:=hx3
 clear hx3 hx2 hU hfx HB HL hb2 hb3 t4 zz hS ho2 hg2 hk2
 refine It.bQ (by kernel_rfl) ?_ _
 clear iy
 have UH:=hid (Pv.out.out UR)
 go_upto_region 19 with fail
 have iy:=hid (show Fo.len ((Fo.nil.app (Fo.one m5 k5)).app (Fo.one m7 k7))<=6010 by show (_:Nat)<=6010;simp[Fo.app,Fo.len,Fo.one])
 obtain⟨u,bk,hbr⟩:=Bt.of (hx.x.ts (b1,Fo.one ⟨11,y.a,y1.t.text,0,0⟩ ((Fo.nil.app (Fo.one m5 k5)).app (Fo.one m7 k7))) (by simp))
 have hlen:=cZ.len hbr.kids
 obtain⟨uo,uc,rfl⟩:=hbr.slice
 replace hx:=hx.drew
 have HB:=hid (hbr.upd hx.x.lt (It.bL.of_below (aH _ _).drew))
 have HL:=hid hlen
 clear hbr hlen
 refine It.bM (z:=11) (S:=λw'=>w'.cell? ⟨b1,6,none⟩=some (Value.slice uo bk.length uc)) (by kernel_rfl) ?_
 have hS:_:=(aA HB.out.top 6:_=some (Value.slice uo bk.length uc))
 iterate 6 ((refine It.nL 0 ?_ rfl (by kernel_rfl) (λ_ _ _ h=>h) (Or.inl ⟨by rfl,?_⟩) hS ?_);rotate_left;(focus (intro w' hSw;go_simp;(try with_reducible rfl)));(try simp only[Act.put,aW,aV,aU,aT,aS,aR]))
 refine It.aD (i:=6) (by kernel_rfl) rfl rfl (λK hK=>?_)
 refine It.aB (λc h=>by cases h) ?_
 have HK:=hid hK
 clear hK
 go_simp
 refine(Rt.jq hx cb UH.out).mono ?_
 rintro e w2 ⟨b8,m8,k8,st8,y8,rfl,hx2,hU,hfx,XR,hc8,hm8⟩
 have hb2:=HB.out.upd hx.x.lt hU
 refine HK.out _ _ (.inr (aA hb2.top 6)) ?_
 clear HK hS
 (try simp only[Act.put,aW,aV,aU,aT,aS,aR])
 obtain⟨u2,w4,hrun,ho2,hg2,hk2⟩:=bS w2 44 (.slice uo bk.length uc) bk.length _ hb2.row hx2.x.upd.size b8 (by have:=HL.out;have:=iy.out;omega)
 obtain⟨o2,c2,rfl⟩:=aI ho2
 refine It.aD (i:=7) (by kernel_rfl) rfl rfl (λK hK=>?_)
 refine It.aB (λc h=>by cases h) ?_
 have HK:=hid hK
 clear hK
 go_simp
 have hb3:=aF hb2.top ((aH _ w2).alloc (aL _) (.cells #[ptr b8] 40))
 refine HK.out _ _ (.inr (aA hb3 6)) ?_
 clear HK
 (try simp only[Act.put,aW,aV,aU,aT,aS,aR])
 refine It.aD (i:=8) (by kernel_rfl) rfl rfl (λK hK=>?_)
 refine It.aB (λc h=>by cases h) ?_
 refine bO _ (.tmp 111) (.tmp 114) 44 44 rfl _ _ rfl rfl _ _ hrun ?_
 have t4:=(hg2.block _ (aY.1 hb3).1 (λe=>HB.out.ne _ e.symm rfl)).trans hb3
 have hS:_:=(aA t4 6:_=some (Value.slice uo bk.length uc))
 refine hK _ _ (.inr hS) ?_
 clear hK K hrun
 (try simp only[Act.put,aW,aV,aU,aT,aS,aR])
 refine It.aD (i:=9) (by kernel_rfl) rfl rfl (λK hK=>?_)
 refine It.aB (λc h=>by cases h) ?_
 have HK:=hid hK
 clear hK
 go_simp
 refine HK.out _ _ (.inr hS) ?_
 clear HK
 (try simp only[Act.put,aW,aV,aU,aT,aS,aR])
 refine It.aD (i:=10) (by kernel_rfl) rfl rfl (λK hK=>?_)
 refine It.aB (λc h=>by cases h) ?_
 have HK:=hid hK
 clear hK
 go_simp
 refine HK.out _ _ (.inr hS) ?_
 clear HK
 (try simp only[Act.put,aW,aV,aU,aT,aS,aR])
 refine It.aD (i:=11) (by kernel_rfl) rfl rfl (λK hK=>?_)
 refine It.aB (λc h=>by cases h) ?_
 have HK:=hid hK
 clear hK
 have zz:=aC t4 6
 go_simp
 have hx3:=Rt.append hx2 hU hx.x.upd.size HB.out hfx ho2 hg2 hk2
 refine HK.out _ _ (.inl rfl) ?_
 clear HK
 (try simp only[Act.put,aW,aV,aU,aT,aS,aR])
 replace hx:=hx3
 clear hx3 hx2 hU hfx HB HL hb2 hb3 t4 zz hS ho2 hg2 hk2
 refine It.bQ (by kernel_rfl) ?_ _
 clear iy
 go_wp2_with fail
 go_ret
 exact show qH _ _ _ _ _ _ _ from hx.res (ay ..) (QM HY.out g HZ.out vP UR XR) (dD (by decide) (by decide))
theorem PN{W:World}{rb n:Nat}{l:ByteArray}{st:Se}{y:Yd}(ce:vT 71 .ex n)(cb:vT 26 .bl n)(hx0:Rx W W rb l st y [])(hn:mu st<=n){tb:Nat}{z:Yd}(htb:W.heap[tb]? = some (.cells (dA z) 36 (0,0)))(hne:tb≠rb)(hz:(⟨12,z.a,z.t.text,0,0⟩:Nd)=jr 12 z)(g:bR dU st=false):Calls prog 73 #[ptr rb,ptr tb] W (Po W rb l z st):=by
 have hx:=Rt.start hx0
 have HY:=hid hx.wN
 have HD1:=hid (oH.first dZ hx.wN hn)
 obtain⟨_,_,c2,_,_,_⟩:=hx.cells
 have Jr:=hid hne
 clear hx0 hn
 have hlt:∀w,It.bL (λk=>k=rb) W w->w.heap[tb]? = some (.cells (dA z) 36 (0,0)):=λw hu=>(hu.block tb (aY.1 htb).1 hne).trans htb
 have HLT:=hid hlt
 have htl:=(aY.1 htb).1
 clear hlt htb
 go_enter func73,ntmps73
 go_upto_region 11 with(first|(go_at_call 11;(with_reducible refine(Rt.nG hx _ (by decide) g).mono ?_);rintro x w2 ⟨rfl,hw⟩;(have hw':=hw.symm);subst hw';clear hw)|(go_at_call 14;(with_reducible refine(Rt.want hx _ (by decide)).mono ?_);rintro x w2 ⟨rfl,y1,hx2,q1⟩;(replace hx:=hx2);clear hx2))
 have HZ:=hid hx.mH
 have HD2:=hid (λq=>oH.name (st:=aN dZ st) HD1.out q)
 go_upto_region 12 with(go_at_call 13;(with_reducible refine(Rt.name hx).mono ?_);rintro x w2 ⟨rfl,y2,hx2,q2⟩;(replace hx:=hx2);clear hx2)
 obtain⟨tk,htk,jg⟩:=hx.mq y1
 rw[htk]
 (replace hx:=jg);clear jg htk
 generalize bY _ _=w9 at *
 obtain⟨t0,t1,t2,t3,t4⟩:=hx.tok (ay ..)
 go_upto_region 14 with(go_at_call 9;(with_reducible refine(Rt.nd0 hx _ _ _).mono ?_);rintro x w2 ⟨b1,rfl,hx2⟩;(replace hx:=hx2);clear hx2)
 clear t0 t1 t2 t3 t4
 have HD3:=hid (HD2.out q2)
 have iy:=hid (show Fo.len Fo.nil<=6010 by show (_:Nat)<=6010;simp[Fo.app,Fo.len,Fo.one])
 obtain⟨u,bk,hbr⟩:=Bt.of (hx.x.ts (b1,Fo.one ⟨11,y.a,y1.t.text,0,0⟩ Fo.nil) (ay ..))
 have hlen:=cZ.len hbr.kids
 obtain⟨uo,uc,rfl⟩:=hbr.slice
 replace hx:=hx.drew
 have HB:=hid (hbr.upd hx.x.lt (It.bL.of_below (aH _ _).drew))
 have HL:=hid hlen
 have HT:=hid (HLT.out _ hx.x.upd)
 have NR:=Jr
 have NE:=hid (show ∀k,(Value.slice uo bk.length uc).ownBlock=some k->k≠tb from λk e=>by have:=(HB.out.row.lt k e).1;omega)
 clear hbr hlen
 refine It.bM (z:=18) (S:=λw'=>w'.cell? ⟨b1,6,none⟩=some (Value.slice uo bk.length uc)/\w'.cell? ⟨tb,1,none⟩=some (.int .i64 z.a)/\w'.cell? ⟨tb,2,none⟩=some (.string z.t.text)) (by kernel_rfl) ?_
 have hS:_/\_/\_:=(⟨aA HB.out.top 6,aA HT.out 1,aA HT.out 2⟩:_=some (Value.slice uo bk.length uc)/\_=some (Value.int .i64 z.a)/\_=some (Value.string z.t.text))
 iterate 13 ((refine It.nL 0 ?_ rfl (by kernel_rfl) (λ_ _ _ h=>h) (Or.inl ⟨by rfl,?_⟩) hS ?_);rotate_left;(focus (intro w' hSw;(obtain⟨s0,s1,s2⟩:=hSw);go_simp;(try with_reducible rfl)));(try simp only[Act.put,aW,aV,aU,aT,aS,aR]))
 refine It.aD (i:=13) (by kernel_rfl) rfl rfl (λK hK=>?_)
 refine It.aB (λc h=>by cases h) ?_
 have HK:=hid hK
 clear hK
 go_simp
 refine(Rt.SE hx _ _ _).mono ?_
 rintro e w2 ⟨b3,rfl,hx2,hU,hfx⟩
 have hb2:=HB.out.upd hx.x.lt hU
 have ht2:=(hU.block _ (aY.1 HT.out).1 NR.out).trans HT.out
 refine HK.out _ _ (.inr ⟨aA hb2.top 6,aA ht2 1,aA ht2 2⟩) ?_
 clear HK hS
 (try simp only[Act.put,aW,aV,aU,aT,aS,aR])
 obtain⟨u2,w4,hrun,ho2,hg2,hk2⟩:=bS w2 44 (.slice uo bk.length uc) bk.length _ hb2.row hx2.x.upd.size b3 (by have:=HL.out;have:=iy.out;omega)
 obtain⟨o2,c2,rfl⟩:=aI ho2
 refine It.aD (i:=14) (by kernel_rfl) rfl rfl (λK hK=>?_)
 refine It.aB (λc h=>by cases h) ?_
 have HK:=hid hK
 clear hK
 go_simp
 have hb3:=aF hb2.top ((aH _ w2).alloc (aL _) (.cells #[ptr b3] 40))
 have ht3:=aF ht2 ((aH _ w2).alloc (aL _) (.cells #[ptr b3] 40))
 refine HK.out _ _ (.inr ⟨aA hb3 6,aA ht3 1,aA ht3 2⟩) ?_
 clear HK
 (try simp only[Act.put,aW,aV,aU,aT,aS,aR])
 refine It.aD (i:=15) (by kernel_rfl) rfl rfl (λK hK=>?_)
 refine It.aB (λc h=>by cases h) ?_
 refine bO _ (.tmp 67) (.tmp 77) 44 44 rfl _ _ rfl rfl _ _ hrun ?_
 have t4:=(hg2.block _ (aY.1 hb3).1 (λe=>HB.out.ne _ e.symm rfl)).trans hb3
 have ML:=(hg2.block _ (aY.1 ht3).1 (λe=>NE.out _ e.symm rfl)).trans ht3
 have hS:_/\_/\_:=(⟨aA t4 6,aA ML 1,aA ML 2⟩:_=some (Value.slice uo bk.length uc)/\_=some (Value.int .i64 z.a)/\_=some (Value.string z.t.text))
 refine hK _ _ (.inr hS) ?_
 clear hK K hrun
 (try simp only[Act.put,aW,aV,aU,aT,aS,aR])
 refine It.aD (i:=16) (by kernel_rfl) rfl rfl (λK hK=>?_)
 refine It.aB (λc h=>by cases h) ?_
 have HK:=hid hK
 clear hK
 go_simp
 refine HK.out _ _ (.inr hS) ?_
 clear HK
 (try simp only[Act.put,aW,aV,aU,aT,aS,aR])
 refine It.aD (i:=17) (by kernel_rfl) rfl rfl (λK hK=>?_)
 refine It.aB (λc h=>by cases h) ?_
 have HK:=hid hK
 clear hK
 go_simp
 refine HK.out _ _ (.inr hS) ?_
 clear HK
 (try simp only[Act.put,aW,aV,aU,aT,aS,aR])
 refine It.aD (i:=18) (by kernel_rfl) rfl rfl (λK hK=>?_)
 refine It.aB (λc h=>by cases h) ?_
 have HK:=hid hK
 clear hK
 have zz:=aC t4 6
 obtain⟨s0,s1,s2⟩:=hS
 go_simp
 have hx3:=Rt.append hx2 hU hx.x.upd.size HB.out hfx ho2 hg2 hk2
 refine HK.out _ _ (.inl rfl) ?_
 clear HK
 (try simp only[Act.put,aW,aV,aU,aT,aS,aR])
 replace hx:=hx3
 clear hx3 hx2 hU hfx HB HL hb2 hb3 t4 zz s0 s1 s2 ho2 hg2 hk2 ht2 ht3 ML HT NE NR
 refine It.bQ (by kernel_rfl) ?_ _
 clear iy
 go_upto_region 15 with fail
 have HD4:=hid (λq=>oH.want (w:=k_in) HD3.out q)
 go_upto_region 16 with(go_at_call 14;(with_reducible refine(Rt.want hx _ (by decide)).mono ?_);rintro x w2 ⟨rfl,y4,hx2,q4⟩;(replace hx:=hx2);clear hx2)
 have HD5:=hid (HD4.out q4)
 have iy:=hid (show Fo.len (Fo.nil.app (Fo.one ⟨12,z.a,z.t.text,0,0⟩ .nil))<=6010 by show (_:Nat)<=6010;simp[Fo.app,Fo.len,Fo.one])
 obtain⟨u,bk,hbr⟩:=Bt.of (hx.x.ts (b1,Fo.one ⟨11,y.a,y1.t.text,0,0⟩ (Fo.nil.app (Fo.one ⟨12,z.a,z.t.text,0,0⟩ .nil))) (by simp))
 have hlen:=cZ.len hbr.kids
 obtain⟨uo,uc,rfl⟩:=hbr.slice
 replace hx:=hx.drew
 have HB:=hid (hbr.upd hx.x.lt (It.bL.of_below (aH _ _).drew))
 have HL:=hid hlen
 clear hbr hlen
 refine It.bM (z:=11) (S:=λw'=>w'.cell? ⟨b1,6,none⟩=some (Value.slice uo bk.length uc)) (by kernel_rfl) ?_
 have hS:_:=(aA HB.out.top 6:_=some (Value.slice uo bk.length uc))
 iterate 6 ((refine It.nL 0 ?_ rfl (by kernel_rfl) (λ_ _ _ h=>h) (Or.inl ⟨by rfl,?_⟩) hS ?_);rotate_left;(focus (intro w' hSw;go_simp;(try with_reducible rfl)));(try simp only[Act.put,aW,aV,aU,aT,aS,aR]))
 refine It.aD (i:=6) (by kernel_rfl) rfl rfl (λK hK=>?_)
 refine It.aB (λc h=>by cases h) ?_
 have HK:=hid hK
 clear hK
 go_simp
 refine(Rt.jq hx ce HD5.out).mono ?_
 rintro e w2 ⟨b5,m5,k5,mM,y5,rfl,hx2,hU,hfx,vP,Vm,QU⟩
 have hb2:=HB.out.upd hx.x.lt hU
 refine HK.out _ _ (.inr (aA hb2.top 6)) ?_
 clear HK hS
 (try simp only[Act.put,aW,aV,aU,aT,aS,aR])
 obtain⟨u2,w4,hrun,ho2,hg2,hk2⟩:=bS w2 44 (.slice uo bk.length uc) bk.length _ hb2.row hx2.x.upd.size b5 (by have:=HL.out;have:=iy.out;omega)
 obtain⟨o2,c2,rfl⟩:=aI ho2
 refine It.aD (i:=7) (by kernel_rfl) rfl rfl (λK hK=>?_)
 refine It.aB (λc h=>by cases h) ?_
 have HK:=hid hK
 clear hK
 go_simp
 have hb3:=aF hb2.top ((aH _ w2).alloc (aL _) (.cells #[ptr b5] 40))
 refine HK.out _ _ (.inr (aA hb3 6)) ?_
 clear HK
 (try simp only[Act.put,aW,aV,aU,aT,aS,aR])
 refine It.aD (i:=8) (by kernel_rfl) rfl rfl (λK hK=>?_)
 refine It.aB (λc h=>by cases h) ?_
 refine bO _ (.tmp 87) (.tmp 90) 44 44 rfl _ _ rfl rfl _ _ hrun ?_
 have t4:=(hg2.block _ (aY.1 hb3).1 (λe=>HB.out.ne _ e.symm rfl)).trans hb3
 have hS:_:=(aA t4 6:_=some (Value.slice uo bk.length uc))
 refine hK _ _ (.inr hS) ?_
 clear hK K hrun
 (try simp only[Act.put,aW,aV,aU,aT,aS,aR])
 refine It.aD (i:=9) (by kernel_rfl) rfl rfl (λK hK=>?_)
 refine It.aB (λc h=>by cases h) ?_
 have HK:=hid hK
 clear hK
 go_simp
 refine HK.out _ _ (.inr hS) ?_
 clear HK
 (try simp only[Act.put,aW,aV,aU,aT,aS,aR])
 refine It.aD (i:=10) (by kernel_rfl) rfl rfl (λK hK=>?_)
 refine It.aB (λc h=>by cases h) ?_
 have HK:=hid hK
 clear hK
 go_simp
 refine HK.out _ _ (.inr hS) ?_
 clear HK
 (try simp only[Act.put,aW,aV,aU,aT,aS,aR])
 refine It.aD (i:=11) (by kernel_rfl) rfl rfl (λK hK=>?_)
 refine It.aB (λc h=>by cases h) ?_
 have HK:=hid hK
 clear hK
 have zz:=aC t4 6
 go_simp
 have hx3:=Rt.append hx2 hU hx.x.upd.size HB.out hfx ho2 hg2 hk2
 refine HK.out _ _ (.inl rfl) ?_
 clear HK
 (try simp only[Act.put,aW,aV,aU,aT,aS,aR])
 replace hx:=hx3
 clear hx3 hx2 hU hfx HB HL hb2 hb3 t4 zz hS ho2 hg2 hk2
 refine It.bQ (by kernel_rfl) ?_ _
 clear iy
 have HD6:=hid (HD5.out.out vP)
 go_upto_region 17 with fail
 have HD7:=hid (λq=>oH.want (w:=qx) HD6.out q)
 go_upto_region 18 with(go_at_call 14;(with_reducible refine(Rt.want hx _ (by decide)).mono ?_);rintro x w2 ⟨rfl,y6,hx2,q6⟩;(replace hx:=hx2);clear hx2)
 have Pv:=hid (HD7.out q6)
 have iy:=hid (show Fo.len ((Fo.nil.app (Fo.one ⟨12,z.a,z.t.text,0,0⟩ .nil)).app (Fo.one m5 k5))<=6010 by show (_:Nat)<=6010;simp[Fo.app,Fo.len,Fo.one])
 obtain⟨u,bk,hbr⟩:=Bt.of (hx.x.ts (b1,Fo.one ⟨11,y.a,y1.t.text,0,0⟩ ((Fo.nil.app (Fo.one ⟨12,z.a,z.t.text,0,0⟩ .nil)).app (Fo.one m5 k5))) (by simp))
 have hlen:=cZ.len hbr.kids
 obtain⟨uo,uc,rfl⟩:=hbr.slice
 replace hx:=hx.drew
 have HB:=hid (hbr.upd hx.x.lt (It.bL.of_below (aH _ _).drew))
 have HL:=hid hlen
 clear hbr hlen
 refine It.bM (z:=11) (S:=λw'=>w'.cell? ⟨b1,6,none⟩=some (Value.slice uo bk.length uc)) (by kernel_rfl) ?_
 have hS:_:=(aA HB.out.top 6:_=some (Value.slice uo bk.length uc))
 iterate 6 ((refine It.nL 0 ?_ rfl (by kernel_rfl) (λ_ _ _ h=>h) (Or.inl ⟨by rfl,?_⟩) hS ?_);rotate_left;(focus (intro w' hSw;go_simp;(try with_reducible rfl)));(try simp only[Act.put,aW,aV,aU,aT,aS,aR]))
 refine It.aD (i:=6) (by kernel_rfl) rfl rfl (λK hK=>?_)
 refine It.aB (λc h=>by cases h) ?_
 have HK:=hid hK
 clear hK
 go_simp
 refine(Rt.jq hx ce Pv.out).mono ?_
 rintro e w2 ⟨b7,m7,k7,Jo,y7,rfl,hx2,hU,hfx,UR,hc7,hm7⟩
 have hb2:=HB.out.upd hx.x.lt hU
 refine HK.out _ _ (.inr (aA hb2.top 6)) ?_
 clear HK hS
 (try simp only[Act.put,aW,aV,aU,aT,aS,aR])
 obtain⟨u2,w4,hrun,ho2,hg2,hk2⟩:=bS w2 44 (.slice uo bk.length uc) bk.length _ hb2.row hx2.x.upd.size b7 (by have:=HL.out;have:=iy.out;omega)
 obtain⟨o2,c2,rfl⟩:=aI ho2
 refine It.aD (i:=7) (by kernel_rfl) rfl rfl (λK hK=>?_)
 refine It.aB (λc h=>by cases h) ?_
 have HK:=hid hK
 clear hK
 go_simp
 have hb3:=aF hb2.top ((aH _ w2).alloc (aL _) (.cells #[ptr b7] 40))
 refine HK.out _ _ (.inr (aA hb3 6)) ?_
 clear HK
 (try simp only[Act.put,aW,aV,aU,aT,aS,aR])
 refine It.aD (i:=8) (by kernel_rfl) rfl rfl (λK hK=>?_)
 refine It.aB (λc h=>by cases h) ?_
 refine bO _ (.tmp 100) (.tmp 103) 44 44 rfl _ _ rfl rfl _ _ hrun ?_
 have t4:=(hg2.block _ (aY.1 hb3).1 (λe=>HB.out.ne _ e.symm rfl)).trans hb3
 have hS:_:=(aA t4 6:_=some (Value.slice uo bk.length uc))
 refine hK _ _ (.inr hS) ?_
 clear hK K hrun
 (try simp only[Act.put,aW,aV,aU,aT,aS,aR])
 refine It.aD (i:=9) (by kernel_rfl) rfl rfl (λK hK=>?_)
 refine It.aB (λc h=>by cases h) ?_
 have HK:=hid hK
 clear hK
 go_simp
 refine HK.out _ _ (.inr hS) ?_
 clear HK
 (try simp only[Act.put,aW,aV,aU,aT,aS,aR])
 refine It.aD (i:=10) (by kernel_rfl) rfl rfl (λK hK=>?_)
 refine It.aB (λc h=>by cases h) ?_
 have HK:=hid hK
 clear hK
 go_simp
 refine HK.out _ _ (.inr hS) ?_
 clear HK
 (try simp only[Act.put,aW,aV,aU,aT,aS,aR])
 refine It.aD (i:=11) (by kernel_rfl) rfl rfl (λK hK=>?_)
 refine It.aB (λc h=>by cases h) ?_
 have HK:=hid hK
 clear hK
 have zz:=aC t4 6
 go_simp
 have hx3:=Rt.append hx2 hU hx.x.upd.size HB.out hfx ho2 hg2 hk2
 refine HK.out _ _ (.inl rfl) ?_
 clear HK
 (try simp only[Act.put,aW,aV,aU,aT,aS,aR])
 replace hx:=hx3
 clear hx3 hx2 hU hfx HB HL hb2 hb3 t4 zz hS ho2 hg2 hk2
 refine It.bQ (by kernel_rfl) ?_ _
 clear iy
 have UH:=hid (Pv.out.out UR)
 go_upto_region 19 with fail
 have iy:=hid (show Fo.len (((Fo.nil.app (Fo.one ⟨12,z.a,z.t.text,0,0⟩ .nil)).app (Fo.one m5 k5)).app (Fo.one m7 k7))<=6010 by show (_:Nat)<=6010;simp[Fo.app,Fo.len,Fo.one])
 obtain⟨u,bk,hbr⟩:=Bt.of (hx.x.ts (b1,Fo.one ⟨11,y.a,y1.t.text,0,0⟩ (((Fo.nil.app (Fo.one ⟨12,z.a,z.t.text,0,0⟩ .nil)).app (Fo.one m5 k5)).app (Fo.one m7 k7))) (by simp))
 have hlen:=cZ.len hbr.kids
 obtain⟨uo,uc,rfl⟩:=hbr.slice
 replace hx:=hx.drew
 have HB:=hid (hbr.upd hx.x.lt (It.bL.of_below (aH _ _).drew))
 have HL:=hid hlen
 clear hbr hlen
 refine It.bM (z:=11) (S:=λw'=>w'.cell? ⟨b1,6,none⟩=some (Value.slice uo bk.length uc)) (by kernel_rfl) ?_
 have hS:_:=(aA HB.out.top 6:_=some (Value.slice uo bk.length uc))
 iterate 6 ((refine It.nL 0 ?_ rfl (by kernel_rfl) (λ_ _ _ h=>h) (Or.inl ⟨by rfl,?_⟩) hS ?_);rotate_left;(focus (intro w' hSw;go_simp;(try with_reducible rfl)));(try simp only[Act.put,aW,aV,aU,aT,aS,aR]))
 refine It.aD (i:=6) (by kernel_rfl) rfl rfl (λK hK=>?_)
 refine It.aB (λc h=>by cases h) ?_
 have HK:=hid hK
 clear hK
 go_simp
 refine(Rt.jq hx cb UH.out).mono ?_
 rintro e w2 ⟨b8,m8,k8,st8,y8,rfl,hx2,hU,hfx,XR,hc8,hm8⟩
 have hb2:=HB.out.upd hx.x.lt hU
 refine HK.out _ _ (.inr (aA hb2.top 6)) ?_
 clear HK hS
 (try simp only[Act.put,aW,aV,aU,aT,aS,aR])
 obtain⟨u2,w4,hrun,ho2,hg2,hk2⟩:=bS w2 44 (.slice uo bk.length uc) bk.length _ hb2.row hx2.x.upd.size b8 (by have:=HL.out;have:=iy.out;omega)
 obtain⟨o2,c2,rfl⟩:=aI ho2
 refine It.aD (i:=7) (by kernel_rfl) rfl rfl (λK hK=>?_)
 refine It.aB (λc h=>by cases h) ?_
 have HK:=hid hK
 clear hK
 go_simp
 have hb3:=aF hb2.top ((aH _ w2).alloc (aL _) (.cells #[ptr b8] 40))
 refine HK.out _ _ (.inr (aA hb3 6)) ?_
 clear HK
 (try simp only[Act.put,aW,aV,aU,aT,aS,aR])
 refine It.aD (i:=8) (by kernel_rfl) rfl rfl (λK hK=>?_)
 refine It.aB (λc h=>by cases h) ?_
 refine bO _ (.tmp 111) (.tmp 114) 44 44 rfl _ _ rfl rfl _ _ hrun ?_
 have t4:=(hg2.block _ (aY.1 hb3).1 (λe=>HB.out.ne _ e.symm rfl)).trans hb3
 have hS:_:=(aA t4 6:_=some (Value.slice uo bk.length uc))
 refine hK _ _ (.inr hS) ?_
 clear hK K hrun
 (try simp only[Act.put,aW,aV,aU,aT,aS,aR])
 refine It.aD (i:=9) (by kernel_rfl) rfl rfl (λK hK=>?_)
 refine It.aB (λc h=>by cases h) ?_
 have HK:=hid hK
 clear hK
 go_simp
 refine HK.out _ _ (.inr hS) ?_
 clear HK
 (try simp only[Act.put,aW,aV,aU,aT,aS,aR])
 refine It.aD (i:=10) (by kernel_rfl) rfl rfl (λK hK=>?_)
 refine It.aB (λc h=>by cases h) ?_
 have HK:=hid hK
 clear hK
 go_simp
 refine HK.out _ _ (.inr hS) ?_
 clear HK
 (try simp only[Act.put,aW,aV,aU,aT,aS,aR])
 refine It.aD (i:=11) (by kernel_rfl) rfl rfl (λK hK=>?_)
 refine It.aB (λc h=>by cases h) ?_
 have HK:=hid hK
 clear hK
 have zz:=aC t4 6
 go_simp
 have hx3:=Rt.append hx2 hU hx.x.upd.size HB.out hfx ho2 hg2 hk2
 refine HK.out _ _ (.inl rfl) ?_
 clear HK
 (try simp only[Act.put,aW,aV,aU,aT,aS,aR])
 replace hx:=hx3
 clear hx3 hx2 hU hfx HB HL hb2 hb3 t4 zz hS ho2 hg2 hk2
 refine It.bQ (by kernel_rfl) ?_ _
 clear iy
 go_wp2_with fail
 go_ret
 refine⟨_,_,_,_,_,_,rfl,hx.top.x,QM HY.out g HZ.out vP UR XR,λx e=>?_,dD (by decide) (by decide)⟩
 rw[VU HY.out vP UR XR x e,hz]
 rfl
theorem pq{W0 W:World}{rb:Nat}{l:ByteArray}{st:Se}{y:Yd}{L:List (Nat × Fo)}{M:List (Nat × Yd)}(h:Rt W0 W rb l st y L M)(k:Int):∀x,bP st=.ok x->(⟨k,y.a,y.t.text,0,0⟩:Nd)=jr k y:=by
 intro x e
 obtain⟨s,rfl⟩:=vN e
 have hk:ow 1 (.ok s)=true:=by
  cases q:ow 1 (.ok s) with
  | true=>rfl
  | false=>
   unfold bP at e
   rw[q,if_neg (by decide)] at e
   cases e
 have h1:y.t.kind=1:=by
  have:decide ((qA s).t.kind=1)=true:=hk
  rw[(dS h.ok).1] at this
  simpa using this
 exact Rx.rW ⟨by omega,by omega⟩ h.x.clean
theorem VD{W0 W:World}{rb:Nat}{l:ByteArray}{st:Se}{y:Yd}{L:List (Nat × Fo)}{M:List (Nat × Yd)}(h:Rt W0 W rb l st y L M):aO .pm st (bP st) (some (Fo.one ⟨4,y.a,y.t.text,0,0⟩ .nil)):=by
 have hn:=pq h 4
 cases st with
 | error e=>rfl
 | ok s=>
  have:=VE h.ok (st1:=bP (.ok s)) rfl
  cases q:bP (.ok s) with
  | error e=>rw[q] at this;exact this.other
  | ok x=>rw[hn x q];rw[q] at this;exact this
theorem Vu{st mM zi:Se}{y z y2:Yd}{ks b:Fo}(hs:∀s,st=.ok s->look s=.ok y)(hz:∀t,mH (aN sH st)=some t->t=z)(ht:∀x,bP (aN sH st)=.ok x->(⟨3,z.a,z.t.text,0,0⟩:Nd)=jr 3 z)(hy2:∀s,bP (aN sH st)=.ok s->look s=.ok y2)(h3:aO (.oq true .nil) (aN gH (bP (aN sH st))) mM (some ks))(h4:aO .bl mM zi (some b)):aO .fu st zi (some (Fo.one ⟨3,z.a,z.t.text,0,0⟩ (ks.app b))):=by
 cases st with
 | error e=>
  have a3:=h3.errs e rfl
  exact h4.errs e a3
 | ok s=>
  have hls:aO (.ls true) (bP (aN sH (.ok s))) mM (some ks):=by
   cases q:bP (aN sH (.ok s)) with
   | error e=>
    rw[q] at h3
    exact h3.errs e rfl
   | ok s2=>
    rw[q] at h3
    exact QL (hy2 s2 q) rfl h3
  cases q6:zi with
  | error e=>
   rw[q6] at h4
   exact(M9 (hs s rfl) rfl rfl hls h4 (o:=some (Fo.one (jr 3 z) (ks.app b))) (λt l b e1 e2 e3=>by cases e2;cases e3;rw[hz t e1])).other
  | ok x=>
   obtain⟨x5,e5⟩:=h4.ok q6
   obtain⟨x2,e2⟩:=hls.ok e5
   rw[ht x2 e2]
   rw[q6] at h4
   exact M9 (hs s rfl) rfl rfl hls h4 (λt l b e1 e2 e3=>by cases e2;cases e3;rw[hz t e1])
theorem Ra(n:Nat)(cb:vT 26 .bl n):nO 15 .fu n:=by
 intro W rb l st y hx0 hn
 have hx:=Rt.start hx0
 have HY:=hid hx.wN
 have HD1:=hid (oH.first sH hx.wN hn)
 clear hx0 hn
 go_enter func15,ntmps15
 go_upto_region 2 with(go_at_call 14;(with_reducible refine(Rt.want hx _ (by decide)).mono ?_);rintro x w2 ⟨rfl,y1,hx2,q1⟩;(replace hx:=hx2);clear hx2)
 have HZ:=hid hx.mH
 have UF:=hid (pq hx 3)
 have HD2:=hid (λq=>oH.name (st:=aN sH st) HD1.out q)
 go_upto_region 3 with(go_at_call 13;(with_reducible refine(Rt.name hx).mono ?_);rintro x w2 ⟨rfl,y2,hx2,q2⟩;(replace hx:=hx2);clear hx2)
 have HY2:=hid hx.wN
 have HF:=hid (λmM zi ks b=>Vu (st:=st) (mM:=mM) (zi:=zi) (ks:=ks) (b:=b) HY.out HZ.out UF.out HY2.out)
 obtain⟨tk,htk,jg⟩:=hx.mq y1
 rw[htk]
 (replace hx:=jg);clear jg htk
 generalize bY _ _=w9 at *
 obtain⟨t0,t1,t2,t3,t4⟩:=hx.tok (ay ..)
 have HD3:=hid (λq=>oH.want (w:=gH) (HD2.out q2) q)
 go_upto_region 5 with(first|(go_at_call 9;(with_reducible refine(Rt.nd0 hx _ _ _).mono ?_);rintro x w2 ⟨b1,rfl,hx2⟩;(replace hx:=hx2);clear hx2)|(go_at_call 14;(with_reducible refine(Rt.want hx _ (by decide)).mono ?_);rintro x w2 ⟨rfl,y3,hx2,q3⟩;(replace hx:=hx2);clear hx2))
 clear t0 t1 t2 t3 t4
 have HD4:=hid (HD3.out q3)
 obtain⟨gT,Ve⟩:∃gT,aN gH (bP (aN sH st))=gT:=⟨_,rfl⟩
 rw[Ve] at hx HD4 HF
 clear Ve q3 q2 q1 HD3 HD2 HD1
 cases g2:bR fM gT
 ·go_wp2_with (go_at_call 11;(with_reducible refine(Rt.nG hx _ (by decide) g2).mono ?_);rintro x w2 ⟨rfl,hw⟩;(have hw':=hw.symm);subst hw';clear hw)
  have HX:=hid hx
  clear hx
  go_loopw [20] (λ_ wr=>∃ks s' y',Rt W wr rb l s' y' [(b1,Fo.one ⟨3,y1.a,y1.t.text,0,0⟩ ks)] []/\F6 true gT ks s'/\ks.len+mu s'<=6010/\oH n s') (λ_ wr=>ru wr rb l)
  case atStart=>exact⟨.nil,_,_,HX.out.top,wX HX.out.wN g2,by have:=HX.out.x.mb;simp only[Fo.len];omega,HD4.out⟩
  case round=>
   obtain⟨ks,s',y',hx,hI,hl,hb⟩:=hrel
   clear HX HD4
   have HM:=hid hx.x.rd.ru
   have HI:=hid hI
   have Nl:=hid hl
   have iy:=hid (show ks.len<=6010 by omega)
   have HPM:=hid (VD hx)
   have HD5:=hid (λq=>oH.name hb q)
   clear hI hl hb
   go_upto_region 7 with(go_at_call 13;(with_reducible refine(Rt.name hx).mono ?_);rintro x w2 ⟨rfl,y5,hx2,q5⟩;(replace hx:=hx2);clear hx2)
   obtain⟨u,bk,hbr⟩:=Bt.of (hx.x.ts (b1,Fo.one ⟨3,y1.a,y1.t.text,0,0⟩ ks) (ay ..))
   have hlen:=cZ.len hbr.kids
   obtain⟨uo,uc,rfl⟩:=hbr.slice
   obtain⟨tb,htb,jg⟩:=hx.mq y'
   have hne:=hid (show ∀k,(Value.slice uo bk.length uc).ownBlock=some k->k≠tb from λk e=>by have:=(hbr.row.lt k e).2;omega)
   have FD:=hbr.upd hx.x.lt (It.bL.of_below ((aH _ _).alloc (aL _) (.cells #[.int .i64 y'.t.kind,.int .i64 y'.a,.string y'.t.text,.int .i64 y'.t.int,.int .u64 y'.t.bits] 36)))
   rw[htb]
   clear htb hbr
   (replace hx:=jg.drew);clear jg
   generalize bY _ _=w9 at *
   have HB:=hid (FD.upd hx.x.lt (It.bL.of_below (aH _ _).drew))
   have HL:=hid hlen
   have HT:=hid (hx.RI (ay ..))
   have NR:=hid (show tb≠rb by have:=(hx.tk _ (ay ..)).1;have:=hx.x.lt;omega)
   have NE:=hne
   clear FD hlen hne
   refine It.bM (z:=14) (S:=λw'=>w'.cell? ⟨b1,6,none⟩=some (Value.slice uo bk.length uc)/\w'.cell? ⟨tb,1,none⟩=some (.int .i64 y'.a)/\w'.cell? ⟨tb,2,none⟩=some (.string y'.t.text)) (by kernel_rfl) ?_
   have hS:_/\_/\_:=(⟨aA HB.out.top 6,aA HT.out 1,aA HT.out 2⟩:_=some (Value.slice uo bk.length uc)/\_=some (Value.int .i64 y'.a)/\_=some (Value.string y'.t.text))
   iterate 9 ((refine It.nL 0 ?_ rfl (by kernel_rfl) (λ_ _ _ h=>h) (Or.inl ⟨by rfl,?_⟩) hS ?_);rotate_left;(focus (intro w' hSw;(obtain⟨s0,s1,s2⟩:=hSw);go_simp;(try with_reducible rfl)));(try simp only[Act.put,aW,aV,aU,aT,aS,aR]))
   refine It.aD (i:=9) (by kernel_rfl) rfl rfl (λK hK=>?_)
   refine It.aB (λc h=>by cases h) ?_
   have HK:=hid hK
   clear hK
   go_simp
   refine(Rt.SE hx _ _ _).mono ?_
   rintro e w2 ⟨b6,rfl,hx2,hU,hfx⟩
   have hb2:=HB.out.upd hx.x.lt hU
   have ht2:=(hU.block _ (aY.1 HT.out).1 NR.out).trans HT.out
   refine HK.out _ _ (.inr ⟨aA hb2.top 6,aA ht2 1,aA ht2 2⟩) ?_
   clear HK hS
   (try simp only[Act.put,aW,aV,aU,aT,aS,aR])
   obtain⟨u2,w4,hrun,ho2,hg2,hk2⟩:=bS w2 44 (.slice uo bk.length uc) bk.length _ hb2.row hx2.x.upd.size b6 (by have:=HL.out;have:=iy.out;omega)
   obtain⟨o2,c2,rfl⟩:=aI ho2
   refine It.aD (i:=10) (by kernel_rfl) rfl rfl (λK hK=>?_)
   refine It.aB (λc h=>by cases h) ?_
   have HK:=hid hK
   clear hK
   go_simp
   have hb3:=aF hb2.top ((aH _ w2).alloc (aL _) (.cells #[ptr b6] 40))
   have ht3:=aF ht2 ((aH _ w2).alloc (aL _) (.cells #[ptr b6] 40))
   refine HK.out _ _ (.inr ⟨aA hb3 6,aA ht3 1,aA ht3 2⟩) ?_
   clear HK
   (try simp only[Act.put,aW,aV,aU,aT,aS,aR])
   refine It.aD (i:=11) (by kernel_rfl) rfl rfl (λK hK=>?_)
   refine It.aB (λc h=>by cases h) ?_
   refine bO _ (.tmp 26) (.tmp 32) 44 44 rfl _ _ rfl rfl _ _ hrun ?_
   have t4:=(hg2.block _ (aY.1 hb3).1 (λe=>HB.out.ne _ e.symm rfl)).trans hb3
   have ML:=(hg2.block _ (aY.1 ht3).1 (λe=>NE.out _ e.symm rfl)).trans ht3
   have hS:_/\_/\_:=(⟨aA t4 6,aA ML 1,aA ML 2⟩:_=some (Value.slice uo bk.length uc)/\_=some (Value.int .i64 y'.a)/\_=some (Value.string y'.t.text))
   refine hK _ _ (.inr hS) ?_
   clear hK K hrun
   (try simp only[Act.put,aW,aV,aU,aT,aS,aR])
   refine It.aD (i:=12) (by kernel_rfl) rfl rfl (λK hK=>?_)
   refine It.aB (λc h=>by cases h) ?_
   have HK:=hid hK
   clear hK
   go_simp
   refine HK.out _ _ (.inr hS) ?_
   clear HK
   (try simp only[Act.put,aW,aV,aU,aT,aS,aR])
   refine It.aD (i:=13) (by kernel_rfl) rfl rfl (λK hK=>?_)
   refine It.aB (λc h=>by cases h) ?_
   have HK:=hid hK
   clear hK
   go_simp
   refine HK.out _ _ (.inr hS) ?_
   clear HK
   (try simp only[Act.put,aW,aV,aU,aT,aS,aR])
   refine It.aD (i:=14) (by kernel_rfl) rfl rfl (λK hK=>?_)
   refine It.aB (λc h=>by cases h) ?_
   have HK:=hid hK
   clear hK
   have zz:=aC t4 6
   obtain⟨s0,s1,s2⟩:=hS
   go_simp
   have hx3:=Rt.append hx2 hU hx.x.upd.size HB.out hfx ho2 hg2 hk2
   refine HK.out _ _ (.inl rfl) ?_
   clear HK
   (try simp only[Act.put,aW,aV,aU,aT,aS,aR])
   replace hx:=hx3
   clear hx3 hx2 hU hfx HB HL hb2 hb3 t4 zz s0 s1 s2 ho2 hg2 hk2 ht2 ht3 ML HT NE NR
   refine It.bQ (by kernel_rfl) ?_ _
   have HD6:=hid (HD5.out q5)
   have xX:=hid hx.wN
   have h1:=p9 ks ⟨4,y'.a,y'.t.text,0,0⟩ .nil
   obtain⟨mM,Vb⟩:∃mM,bP s'=mM:=⟨_,rfl⟩
   rw[Vb] at hx HD6 HPM xX q5
   clear HD5 Vb
   go_upto_region 8 with fail
   cases g:bR nE mM
   ·have HD7:=hid (λq=>oH.want (w:=fM) HD6.out q)
    clear iy
    have iy:=hid (show Fo.len (ks.app (Fo.one ⟨4,y'.a,y'.t.text,0,0⟩ .nil))<=2000000 by rw[h1];have:=Nl.out;omega)
    go_upto_region 10 with(go_at_call 11;(with_reducible refine(Rt.nG hx _ (by decide) g).mono ?_);rintro x w2 ⟨rfl,hw⟩;(have hw':=hw.symm);subst hw';clear hw)
    go_upto_region 11 with(go_at_call 14;(with_reducible refine(Rt.want hx _ (by decide)).mono ?_);rintro x w2 ⟨rfl,y8,hx2,q8⟩;(replace hx:=hx2);clear hx2)
    have Pv:=hid (HD7.out q8)
    obtain⟨u,bk,hbr⟩:=Bt.of (hx.x.ts (b1,Fo.one ⟨3,y1.a,y1.t.text,0,0⟩ (ks.app (Fo.one ⟨4,y'.a,y'.t.text,0,0⟩ .nil))) (by simp))
    have hlen:=cZ.len hbr.kids
    obtain⟨uo,uc,rfl⟩:=hbr.slice
    replace hx:=hx.drew
    have HB:=hid (hbr.upd hx.x.lt (It.bL.of_below (aH _ _).drew))
    have HL:=hid hlen
    clear hbr hlen
    refine It.bM (z:=11) (S:=λw'=>w'.cell? ⟨b1,6,none⟩=some (Value.slice uo bk.length uc)) (by kernel_rfl) ?_
    have hS:_:=(aA HB.out.top 6:_=some (Value.slice uo bk.length uc))
    iterate 6 ((refine It.nL 0 ?_ rfl (by kernel_rfl) (λ_ _ _ h=>h) (Or.inl ⟨by rfl,?_⟩) hS ?_);rotate_left;(focus (intro w' hSw;go_simp;(try with_reducible rfl)));(try simp only[Act.put,aW,aV,aU,aT,aS,aR]))
    refine It.aD (i:=6) (by kernel_rfl) rfl rfl (λK hK=>?_)
    refine It.aB (λc h=>by cases h) ?_
    have HK:=hid hK
    clear hK
    go_simp
    refine(Rt.jq hx cb Pv.out).mono ?_
    rintro e w2 ⟨b9,m9,k9,st9,y9,rfl,hx2,hU,hfx,ho9,hc9,hm9⟩
    have hb2:=HB.out.upd hx.x.lt hU
    refine HK.out _ _ (.inr (aA hb2.top 6)) ?_
    clear HK hS
    (try simp only[Act.put,aW,aV,aU,aT,aS,aR])
    obtain⟨u2,w4,hrun,ho2,hg2,hk2⟩:=bS w2 44 (.slice uo bk.length uc) bk.length _ hb2.row hx2.x.upd.size b9 (by have:=HL.out;have:=iy.out;omega)
    obtain⟨o2,c2,rfl⟩:=aI ho2
    refine It.aD (i:=7) (by kernel_rfl) rfl rfl (λK hK=>?_)
    refine It.aB (λc h=>by cases h) ?_
    have HK:=hid hK
    clear hK
    go_simp
    have hb3:=aF hb2.top ((aH _ w2).alloc (aL _) (.cells #[ptr b9] 40))
    refine HK.out _ _ (.inr (aA hb3 6)) ?_
    clear HK
    (try simp only[Act.put,aW,aV,aU,aT,aS,aR])
    refine It.aD (i:=8) (by kernel_rfl) rfl rfl (λK hK=>?_)
    refine It.aB (λc h=>by cases h) ?_
    refine bO _ (.tmp 47) (.tmp 50) 44 44 rfl _ _ rfl rfl _ _ hrun ?_
    have t4:=(hg2.block _ (aY.1 hb3).1 (λe=>HB.out.ne _ e.symm rfl)).trans hb3
    have hS:_:=(aA t4 6:_=some (Value.slice uo bk.length uc))
    refine hK _ _ (.inr hS) ?_
    clear hK K hrun
    (try simp only[Act.put,aW,aV,aU,aT,aS,aR])
    refine It.aD (i:=9) (by kernel_rfl) rfl rfl (λK hK=>?_)
    refine It.aB (λc h=>by cases h) ?_
    have HK:=hid hK
    clear hK
    go_simp
    refine HK.out _ _ (.inr hS) ?_
    clear HK
    (try simp only[Act.put,aW,aV,aU,aT,aS,aR])
    refine It.aD (i:=10) (by kernel_rfl) rfl rfl (λK hK=>?_)
    refine It.aB (λc h=>by cases h) ?_
    have HK:=hid hK
    clear hK
    go_simp
    refine HK.out _ _ (.inr hS) ?_
    clear HK
    (try simp only[Act.put,aW,aV,aU,aT,aS,aR])
    refine It.aD (i:=11) (by kernel_rfl) rfl rfl (λK hK=>?_)
    refine It.aB (λc h=>by cases h) ?_
    have HK:=hid hK
    clear hK
    have zz:=aC t4 6
    go_simp
    have hx3:=Rt.append hx2 hU hx.x.upd.size HB.out hfx ho2 hg2 hk2
    refine HK.out _ _ (.inl rfl) ?_
    clear HK
    (try simp only[Act.put,aW,aV,aU,aT,aS,aR])
    replace hx:=hx3
    clear hx3 hx2 hU hfx HB HL hb2 hb3 t4 zz hS ho2 hg2 hk2
    refine It.bQ (by kernel_rfl) ?_ _
    go_wp2_with fail
    go_ret
    exact hx.res (ay ..) (HF.out _ _ _ _ (Cz HI.out HPM.out (by rw[h1];omega) xX.out g) ho9) (dD (by decide) (by decide))
   ·cases mM with
    | error e=>cases g
    | ok s5=>
     go_wp2_with (first|(go_at_call 11;(with_reducible refine(Rt.lX hx _ (by decide) g).mono ?_);rintro x w2 ⟨rfl,hw⟩;(have hw':=hw.symm);subst hw';clear hw)|(go_at_call 12;(with_reducible refine(Rt.stepT hx nE (by decide) g).mono ?_);rintro x w2 ⟨rfl,y6,hx2,q6⟩;(replace hx:=hx2);clear hx2))
     go_roundw
     case rel=>exact⟨_,_,_,hx,zJ HI.out HPM.out (by rw[h1];omega) (xX.out s5 rfl) g,by have:=Nl.out;omega,HD6.out.step q6 rfl⟩
     case measure=>
      rw[hx.x.rd.ru,HM.out]
      omega
 ·cases gT with
  | error e=>cases g2
  | ok s3=>
   have HY3:=hid hx.ok
   have HD7:=hid (λq=>oH.want (w:=fM) HD4.out q)
   have iy:=hid (show Fo.len Fo.nil<=6010 by show (0:Nat)<=6010;omega)
   go_upto_region 10 with(go_at_call 11;(with_reducible refine(Rt.lX hx _ (by decide) g2).mono ?_);rintro x w2 ⟨rfl,hw⟩;(have hw':=hw.symm);subst hw';clear hw)
   go_upto_region 11 with(go_at_call 14;(with_reducible refine(Rt.want hx _ (by decide)).mono ?_);rintro x w2 ⟨rfl,y8,hx2,q8⟩;(replace hx:=hx2);clear hx2)
   have Pv:=hid (HD7.out q8)
   obtain⟨u,bk,hbr⟩:=Bt.of (hx.x.ts (b1,Fo.one ⟨3,y1.a,y1.t.text,0,0⟩ Fo.nil) (by simp))
   have hlen:=cZ.len hbr.kids
   obtain⟨uo,uc,rfl⟩:=hbr.slice
   replace hx:=hx.drew
   have HB:=hid (hbr.upd hx.x.lt (It.bL.of_below (aH _ _).drew))
   have HL:=hid hlen
   clear hbr hlen
   refine It.bM (z:=11) (S:=λw'=>w'.cell? ⟨b1,6,none⟩=some (Value.slice uo bk.length uc)) (by kernel_rfl) ?_
   have hS:_:=(aA HB.out.top 6:_=some (Value.slice uo bk.length uc))
   iterate 6 ((refine It.nL 0 ?_ rfl (by kernel_rfl) (λ_ _ _ h=>h) (Or.inl ⟨by rfl,?_⟩) hS ?_);rotate_left;(focus (intro w' hSw;go_simp;(try with_reducible rfl)));(try simp only[Act.put,aW,aV,aU,aT,aS,aR]))
   refine It.aD (i:=6) (by kernel_rfl) rfl rfl (λK hK=>?_)
   refine It.aB (λc h=>by cases h) ?_
   have HK:=hid hK
   clear hK
   go_simp
   refine(Rt.jq hx cb Pv.out).mono ?_
   rintro e w2 ⟨b9,m9,k9,st9,y9,rfl,hx2,hU,hfx,ho9,hc9,hm9⟩
   have hb2:=HB.out.upd hx.x.lt hU
   refine HK.out _ _ (.inr (aA hb2.top 6)) ?_
   clear HK hS
   (try simp only[Act.put,aW,aV,aU,aT,aS,aR])
   obtain⟨u2,w4,hrun,ho2,hg2,hk2⟩:=bS w2 44 (.slice uo bk.length uc) bk.length _ hb2.row hx2.x.upd.size b9 (by have:=HL.out;have:=iy.out;omega)
   obtain⟨o2,c2,rfl⟩:=aI ho2
   refine It.aD (i:=7) (by kernel_rfl) rfl rfl (λK hK=>?_)
   refine It.aB (λc h=>by cases h) ?_
   have HK:=hid hK
   clear hK
   go_simp
   have hb3:=aF hb2.top ((aH _ w2).alloc (aL _) (.cells #[ptr b9] 40))
   refine HK.out _ _ (.inr (aA hb3 6)) ?_
   clear HK
   (try simp only[Act.put,aW,aV,aU,aT,aS,aR])
   refine It.aD (i:=8) (by kernel_rfl) rfl rfl (λK hK=>?_)
   refine It.aB (λc h=>by cases h) ?_
   refine bO _ (.tmp 47) (.tmp 50) 44 44 rfl _ _ rfl rfl _ _ hrun ?_
   have t4:=(hg2.block _ (aY.1 hb3).1 (λe=>HB.out.ne _ e.symm rfl)).trans hb3
   have hS:_:=(aA t4 6:_=some (Value.slice uo bk.length uc))
   refine hK _ _ (.inr hS) ?_
   clear hK K hrun
   (try simp only[Act.put,aW,aV,aU,aT,aS,aR])
   refine It.aD (i:=9) (by kernel_rfl) rfl rfl (λK hK=>?_)
   refine It.aB (λc h=>by cases h) ?_
   have HK:=hid hK
   clear hK
   go_simp
   refine HK.out _ _ (.inr hS) ?_
   clear HK
   (try simp only[Act.put,aW,aV,aU,aT,aS,aR])
   refine It.aD (i:=10) (by kernel_rfl) rfl rfl (λK hK=>?_)
   refine It.aB (λc h=>by cases h) ?_
   have HK:=hid hK
   clear hK
   go_simp
   refine HK.out _ _ (.inr hS) ?_
   clear HK
   (try simp only[Act.put,aW,aV,aU,aT,aS,aR])
   refine It.aD (i:=11) (by kernel_rfl) rfl rfl (λK hK=>?_)
   refine It.aB (λc h=>by cases h) ?_
   have HK:=hid hK
   clear hK
   have zz:=aC t4 6
   go_simp
   have hx3:=Rt.append hx2 hU hx.x.upd.size HB.out hfx ho2 hg2 hk2
   refine HK.out _ _ (.inl rfl) ?_
   clear HK
   (try simp only[Act.put,aW,aV,aU,aT,aS,aR])
   replace hx:=hx3
   clear hx3 hx2 hU hfx HB HL hb2 hb3 t4 zz hS ho2 hg2 hk2
   refine It.bQ (by kernel_rfl) ?_ _
   go_wp2_with fail
   go_ret
   exact hx.res (ay ..) (HF.out _ _ _ _ (G5 HY3.out g2) ho9) (dD (by decide) (by decide))
theorem RO{s:Cs}{y:Yd}{st1:Se}{o:Option Fo}(hs:look s=.ok y)(g:bR fU (.ok s)=true)(h:aO (.lt) (.ok s) st1 o):aO .st (.ok s) st1 o:=by
 refine oP hs ?_
 unfold Jm
 rw[(ak hs).1 g]
 exact h
theorem Ui{s:Cs}{y:Yd}{st1:Se}{o:Option Fo}(hs:look s=.ok y)(g:bR jV (.ok s)=true)(h:aO (.iF) (.ok s) st1 o):aO .st (.ok s) st1 o:=by
 refine oP hs ?_
 unfold Jm
 rw[(ak hs).1 g]
 exact h
theorem K5{s:Cs}{y:Yd}{st1:Se}{o:Option Fo}(hs:look s=.ok y)(g:bR dU (.ok s)=true)(h:aO (.wh) (.ok s) st1 o):aO .st (.ok s) st1 o:=by
 refine oP hs ?_
 unfold Jm
 rw[(ak hs).1 g]
 exact h
theorem RP{s:Cs}{y:Yd}{st1:Se}{o:Option Fo}(hs:look s=.ok y)(g:bR dZ (.ok s)=true)(h:aO (.fr) (.ok s) st1 o):aO .st (.ok s) st1 o:=by
 refine oP hs ?_
 unfold Jm
 rw[(ak hs).1 g]
 exact h
theorem K6{s:Cs}{y:Yd}{st1:Se}{o:Option Fo}(hs:look s=.ok y)(g:bR jH (.ok s)=true)(h:aO (.jm 13) (.ok s) st1 o):aO .st (.ok s) st1 o:=by
 refine oP hs ?_
 unfold Jm
 rw[(ak hs).1 g]
 exact h
theorem Bp{s:Cs}{y:Yd}{st1:Se}{o:Option Fo}(hs:look s=.ok y)(g:bR fD (.ok s)=true)(h:aO (.jm 14) (.ok s) st1 o):aO .st (.ok s) st1 o:=by
 refine oP hs ?_
 unfold Jm
 rw[(ak hs).1 g]
 exact h
theorem yM{s:Cs}{y:Yd}{st1:Se}{o:Option Fo}(hs:look s=.ok y)(g:bR gD (.ok s)=true)(h:aO (.rt) (.ok s) st1 o):aO .st (.ok s) st1 o:=by
 refine oP hs ?_
 unfold Jm
 rw[(ak hs).1 g]
 exact h
theorem RL{s:Cs}{y:Yd}{st1:Se}{o:Option Fo}(hs:look s=.ok y)(g:bR oF (.ok s)=true)(h:aO (.ou) (.ok s) st1 o):aO .st (.ok s) st1 o:=by
 refine oP hs ?_
 unfold Jm
 rw[(ak hs).1 g]
 exact h
theorem VT{s:Cs}{y z:Yd}{mW:Se}{e:Fo}(hs:look s=.ok y)(hw:bR fU (.ok s)=true)(hz:∀t,mH (bJ (.ok s))=some t->t=z)(ht:∀x,bP (bJ (.ok s))=.ok x->(⟨6,z.a,z.t.text,0,0⟩:Nd)=jr 6 z)(h4:aO .ex (aN jf (bP (bJ (.ok s)))) mW (some e)):aO .lt (.ok s) (aN bV mW) (some (Fo.one ⟨6,z.a,z.t.text,0,0⟩ e)):=by
 have hw2:=(gF hs hw).symm
 cases q:aN bV mW with
 | error f=>
  have:=QK hs (st1:=bJ (.ok s)) hw2 rfl rfl h4 rfl (o:=some (Fo.one (jr 6 z) e)) (λt v e1 e2=>by cases e2;rw[hz t e1])
  rw[q] at this
  exact this.other
 | ok x=>
  obtain⟨x4,e4⟩:=gY q
  obtain⟨x3,e3⟩:=h4.ok e4
  obtain⟨x2,e2⟩:=gY e3
  rw[ht x2 e2,<- q]
  exact QK hs (st1:=bJ (.ok s)) hw2 rfl rfl h4 rfl (λt v e1 e2=>by cases e2;rw[hz t e1])
theorem JA{s:Cs}{y:Yd}(hs:look s=.ok y)(hk:ow 1 (.ok s)=true):bR bV (.ok s)=false:=by
 have h1:y.t.kind=1:=by
  have:decide ((qA s).t.kind=1)=true:=hk
  rw[(dS hs).1] at this
  simpa using this
 cases q:bR bV (.ok s) with
 | false=>rfl
 | true=>
  have:=(ak hs).1 q
  unfold aG at this
  rw[if_neg (by omega)] at this
  exact absurd this (by decide)
theorem QO{s:Cs}{y z:Yd}{k:Int}(hs:look s=.ok y)(hz:∀s1,bJ (.ok s)=.ok s1->look s1=.ok z):aO (.jm k) (.ok s) (aN bV (Em (bJ (.ok s)))) (some (Fo.one ⟨k,y.a,MC (bJ (.ok s)) z,0,0⟩ .nil)):=by
 cases q1:bJ (.ok s) with
 | error e=>
  have:=Ae hs (k:=k) (st1:=bJ (.ok s)) rfl (by rw[q1];rfl) rfl rfl (o:=none) (λv e1=>by rw[q1] at e1;cases e1)
  rw[q1] at this
  exact this.other
 | ok s1=>
  have hl:=hz s1 q1
  unfold Em MC
  cases hk:ow 1 (.ok s1) with
  | true=>
   rw[if_pos rfl,if_pos rfl]
   have hn:bP (.ok s1)=bJ (.ok s1):=by unfold bP;rw[hk,if_pos rfl]
   have:=Ae hs (k:=k) (st1:=bJ (.ok s)) rfl (by rw[q1];exact JA hl hk) rfl rfl (o:=some (Fo.one ⟨k,y.a,z.t.text,0,0⟩ .nil)) (λv e1=>by
    rw[q1] at e1
    have:some (qA s1)=some v:=e1
    rw[(dS hl).1] at this
    rw[Option.some.inj this])
   rw[q1,hn] at this
   exact this
  | false=>
   rw[if_neg (by decide),if_neg (by decide)]
   cases q2:bR bV (.ok s1) with
   | true=>
    rw[gF hl q2,<- q1]
    exact Oq hs rfl (by rw[q1];exact q2)
   | false=>
    have hn:bP (.ok s1)=aN bV (.ok s1):=by unfold bP aN;rw[hk,q2]
    have:=Ae hs (k:=k) (st1:=bJ (.ok s)) rfl (by rw[q1];exact q2) rfl rfl (o:=some (Fo.one ⟨k,y.a,z.t.text,0,0⟩ .nil)) (λv e1=>by
     rw[q1] at e1
     have:some (qA s1)=some v:=e1
     rw[(dS hl).1] at this
     rw[Option.some.inj this])
    rw[q1,hn,jA hl q2] at this
    rw[jA hl q2]
    exact this.other
abbrev Xb(n:Nat):Prop:=∀W rb l st y,Rx W W rb l st y []->mu st<=n->Calls prog 73 #[ptr rb,.pointer none] W (N9 W rb l st)
abbrev LLC(n:Nat):Prop:=∀W rb l st y tb z,Rx W W rb l st y []->mu st<=n->W.heap[tb]? = some (.cells (dA z) 36 (0,0))->tb≠rb->(⟨12,z.a,z.t.text,0,0⟩:Nd)=jr 12 z->Calls prog 73 #[ptr rb,ptr tb] W (Po W rb l z st)
theorem KY{W:World}{rb n:Nat}{l:ByteArray}{s:Cs}{y:Yd}(ce:nO 71 .ex n)(hx0:Rx W W rb l (.ok s) y [])(hn:mu (.ok s)<=n)(g:bR fU (.ok s)=true):Calls prog 43 #[ptr rb] W (qH W rb l .st (.ok s)):=by
 have hx:=Rt.start hx0
 have HY:=hid hx.ok
 have HN:=hid hn
 obtain⟨_,_,c2,_,_,_⟩:=hx.cells
 clear hn
 go_enter func43,ntmps43
 clear hx0
 go_upto_region 4 with(first|(go_at_call 11;(with_reducible refine(Rt.lX hx _ (by decide) g).mono ?_);rintro x w2 ⟨rfl,hw⟩;(have hw':=hw.symm);subst hw';clear hw)|(go_at_call 12;(with_reducible refine(Rt.stepT hx fU (by decide) g).mono ?_);rintro x w2 ⟨rfl,y1,hx2,q1⟩;(replace hx:=hx2);clear hx2))
 have HZ:=hid hx.mH
 have UF:=hid (pq hx 6)
 go_upto_region 5 with(go_at_call 13;(with_reducible refine(Rt.name hx).mono ?_);rintro x w2 ⟨rfl,y2,hx2,q2⟩;(replace hx:=hx2);clear hx2)
 obtain⟨tk,htk,jg⟩:=hx.mq y1
 rw[htk]
 (replace hx:=jg);clear jg htk
 generalize bY _ _=w9 at *
 go_upto_region 6 with(go_at_call 14;(with_reducible refine(Rt.want hx _ (by decide)).mono ?_);rintro x w2 ⟨rfl,y3,hx2,q3⟩;(replace hx:=hx2);clear hx2)
 go_upto_region 7 with(go_at_call 71;(with_reducible refine(Rt.part hx ce (by have:=HN.out;omega)).mono ?_);rintro x w2 ⟨b4,m4,k4,mW,y4,rfl,hx2,Ow,hc4,hm4⟩;(replace hx:=hx2);clear hx2)
 go_upto_region 8 with(go_at_call 14;(with_reducible refine(Rt.want hx _ (by decide)).mono ?_);rintro x w2 ⟨rfl,y5,hx2,q5⟩;(replace hx:=hx2);clear hx2)
 obtain⟨t0,t1,t2,t3,t4⟩:=hx.tok (ay ..)
 go_wp2_with (go_at_call 9;(with_reducible refine(Rt.Od (b1:=b4) (f1:=Fo.one m4 k4) hx _ _ _ (by simp)).mono ?_);rintro x w2 ⟨b0,rfl,hx2⟩;(replace hx:=hx2);clear hx2)
 go_ret
 exact hx.res (ay ..) (RO HY.out g (VT HY.out g HZ.out UF.out Ow)) (dD (by decide) (by decide))
theorem Nz{W:World}{rb n:Nat}{l:ByteArray}{s:Cs}{y:Yd}(cc:nO 72 .iF n)(hx0:Rx W W rb l (.ok s) y [])(hn:mu (.ok s)<=n)(g1:bR fU (.ok s)=false)(g:bR jV (.ok s)=true):Calls prog 43 #[ptr rb] W (qH W rb l .st (.ok s)):=by
 have hx:=Rt.start hx0
 have HY:=hid hx.ok
 have HN:=hid hn
 obtain⟨_,_,c2,_,_,_⟩:=hx.cells
 clear hn
 go_enter func43,ntmps43
 clear hx0
 go_wp2_with (first|((with_reducible (apply Calls.mono;first|exact Rt.nG hx _ (by decide) (by assumption)|exact Rt.lX hx _ (by decide) (by assumption)));rintro x w2 ⟨rfl,hw⟩;(have hw':=hw.symm);subst hw';clear hw)|(go_at_call 72;(with_reducible refine(Rt.part hx cc HN.out).mono ?_);rintro x w2 ⟨b1,m1,k1,st1,y1,rfl,hx2,ho1,hc1,hm1⟩;(replace hx:=hx2);clear hx2))
 go_ret
 exact hx.res (ay ..) (Ui HY.out g ho1) hc1
theorem Dz{W:World}{rb n:Nat}{l:ByteArray}{s:Cs}{y:Yd}(lb:Xb n)(hx0:Rx W W rb l (.ok s) y [])(hn:mu (.ok s)<=n)(g1:bR fU (.ok s)=false)(g2:bR jV (.ok s)=false)(g:bR dU (.ok s)=true):Calls prog 43 #[ptr rb] W (qH W rb l .st (.ok s)):=by
 have hx:=Rt.start hx0
 have HY:=hid hx.ok
 have HN:=hid hn
 obtain⟨_,_,c2,_,_,_⟩:=hx.cells
 clear hn
 go_enter func43,ntmps43
 have HX:=hid hx0
 clear hx0
 go_wp2_with (first|((with_reducible (apply Calls.mono;first|exact Rt.nG hx _ (by decide) (by assumption)|exact Rt.lX hx _ (by decide) (by assumption)));rintro x w2 ⟨rfl,hw⟩;(have hw':=hw.symm);subst hw';clear hw)|(go_at_call 73;(with_reducible refine(lb W rb l _ y HX.out HN.out).mono ?_);rintro x w2 hr;(unfold N9 at hr);(obtain⟨b1,m1,k1,st1,y1,rfl,hx2,ho1,hc1⟩:=hr)))
 go_ret
 have hp:(if bR dZ (.ok s)=true then Nt.fr else Nt.wh)=.wh:=by rw[su (λx e=>by cases e;exact HY.out) g];rfl
 rw[hp] at ho1
 exact⟨_,_,_,_,_,rfl,hx2,K5 HY.out g ho1,hc1⟩
theorem KZ{W:World}{rb n:Nat}{l:ByteArray}{s:Cs}{y:Yd}(lb:Xb n)(hx0:Rx W W rb l (.ok s) y [])(hn:mu (.ok s)<=n)(g1:bR fU (.ok s)=false)(g2:bR jV (.ok s)=false)(g3:bR dU (.ok s)=false)(g:bR dZ (.ok s)=true):Calls prog 43 #[ptr rb] W (qH W rb l .st (.ok s)):=by
 have hx:=Rt.start hx0
 have HY:=hid hx.ok
 have HN:=hid hn
 obtain⟨_,_,c2,_,_,_⟩:=hx.cells
 clear hn
 go_enter func43,ntmps43
 have HX:=hid hx0
 clear hx0
 go_wp2_with (first|((with_reducible (apply Calls.mono;first|exact Rt.nG hx _ (by decide) (by assumption)|exact Rt.lX hx _ (by decide) (by assumption)));rintro x w2 ⟨rfl,hw⟩;(have hw':=hw.symm);subst hw';clear hw)|(go_at_call 73;(with_reducible refine(lb W rb l _ y HX.out HN.out).mono ?_);rintro x w2 hr;(unfold N9 at hr);(obtain⟨b1,m1,k1,st1,y1,rfl,hx2,ho1,hc1⟩:=hr)))
 go_ret
 have hp:(if bR dZ (.ok s)=true then Nt.fr else Nt.wh)=.fr:=by rw[g];rfl
 rw[hp] at ho1
 exact⟨_,_,_,_,_,rfl,hx2,RP HY.out g ho1,hc1⟩
theorem EA{W:World}{rb n:Nat}{l:ByteArray}{s:Cs}{y:Yd}(hx0:Rx W W rb l (.ok s) y [])(hn:mu (.ok s)<=n)(g1:bR fU (.ok s)=false)(g2:bR jV (.ok s)=false)(g3:bR dU (.ok s)=false)(g4:bR dZ (.ok s)=false)(g:bR jH (.ok s)=true):Calls prog 43 #[ptr rb] W (qH W rb l .st (.ok s)):=by
 have hx:=Rt.start hx0
 have HY:=hid hx.ok
 have HN:=hid hn
 obtain⟨_,_,c2,_,_,_⟩:=hx.cells
 clear hn
 go_enter func43,ntmps43
 have gc:bR fD (.ok s)=false:=by
  cases q:bR fD (.ok s) with
  | false=>rfl
  | true=>
   have q1:=(ak hx0.ok).1 q
   rw[(ak hx0.ok).1 g] at q1
   exact absurd q1 (by decide)
 clear hx0
 go_upto_region 20 with(first|((with_reducible (apply Calls.mono;first|exact Rt.nG hx _ (by decide) (by assumption)|exact Rt.lX hx _ (by decide) (by assumption)));rintro x w2 ⟨rfl,hw⟩;(have hw':=hw.symm);subst hw';clear hw)|(go_at_call 12;(with_reducible refine(Rt.stepT hx jH (by decide) g).mono ?_);rintro x w2 ⟨rfl,y1,hx2,q1⟩;(replace hx:=hx2);clear hx2))
 have xX:=hid hx.wN
 go_wp2_with (first|(go_at_call 74;(with_reducible refine(Rt.label hx).mono ?_);rintro x w2 ⟨rfl,y2,hx2⟩;(replace hx:=hx2);clear hx2)|(go_at_call 9;(with_reducible refine(Rt.nd0 hx _ _ _).mono ?_);rintro x w2 ⟨b1,rfl,hx2⟩;(replace hx:=hx2);clear hx2)|(go_at_call 14;(with_reducible refine(Rt.want hx _ (by decide)).mono ?_);rintro x w2 ⟨rfl,y3,hx2,q3⟩;(replace hx:=hx2);clear hx2))
 go_ret
 exact hx.res (ay ..) (K6 HY.out g (QO HY.out xX.out)) (dD (by decide) (by decide))
theorem x9{W:World}{rb n:Nat}{l:ByteArray}{s:Cs}{y:Yd}(hx0:Rx W W rb l (.ok s) y [])(hn:mu (.ok s)<=n)(g1:bR fU (.ok s)=false)(g2:bR jV (.ok s)=false)(g3:bR dU (.ok s)=false)(g4:bR dZ (.ok s)=false)(g5:bR jH (.ok s)=false)(g:bR fD (.ok s)=true):Calls prog 43 #[ptr rb] W (qH W rb l .st (.ok s)):=by
 have hx:=Rt.start hx0
 have HY:=hid hx.ok
 have HN:=hid hn
 obtain⟨_,_,c2,_,_,_⟩:=hx.cells
 clear hn
 go_enter func43,ntmps43
 clear hx0
 go_upto_region 20 with(first|((with_reducible (apply Calls.mono;first|exact Rt.nG hx _ (by decide) (by assumption)|exact Rt.lX hx _ (by decide) (by assumption)));rintro x w2 ⟨rfl,hw⟩;(have hw':=hw.symm);subst hw';clear hw)|(go_at_call 12;(with_reducible refine(Rt.stepT hx fD (by decide) g).mono ?_);rintro x w2 ⟨rfl,y1,hx2,q1⟩;(replace hx:=hx2);clear hx2))
 have xX:=hid hx.wN
 go_wp2_with (first|(go_at_call 74;(with_reducible refine(Rt.label hx).mono ?_);rintro x w2 ⟨rfl,y2,hx2⟩;(replace hx:=hx2);clear hx2)|(go_at_call 9;(with_reducible refine(Rt.nd0 hx _ _ _).mono ?_);rintro x w2 ⟨b1,rfl,hx2⟩;(replace hx:=hx2);clear hx2)|(go_at_call 14;(with_reducible refine(Rt.want hx _ (by decide)).mono ?_);rintro x w2 ⟨rfl,y3,hx2,q3⟩;(replace hx:=hx2);clear hx2))
 go_ret
 exact hx.res (ay ..) (Bp HY.out g (QO HY.out xX.out)) (dD (by decide) (by decide))
theorem Bn{W:World}{rb n:Nat}{l:ByteArray}{s:Cs}{y:Yd}(ce:nO 71 .ex n)(hx0:Rx W W rb l (.ok s) y [])(hn:mu (.ok s)<=n)(g1:bR fU (.ok s)=false)(g2:bR jV (.ok s)=false)(g3:bR dU (.ok s)=false)(g4:bR dZ (.ok s)=false)(g5:bR jH (.ok s)=false)(g6:bR fD (.ok s)=false)(g:bR gD (.ok s)=true):Calls prog 43 #[ptr rb] W (qH W rb l .st (.ok s)):=by
 have hx:=Rt.start hx0
 have HY:=hid hx.ok
 have HN:=hid hn
 obtain⟨_,_,c2,_,_,_⟩:=hx.cells
 clear hn
 go_enter func43,ntmps43
 clear hx0
 go_upto_region 26 with(first|((with_reducible (apply Calls.mono;first|exact Rt.nG hx _ (by decide) (by assumption)|exact Rt.lX hx _ (by decide) (by assumption)));rintro x w2 ⟨rfl,hw⟩;(have hw':=hw.symm);subst hw';clear hw)|(go_at_call 12;(with_reducible refine(Rt.stepT hx gD (by decide) g).mono ?_);rintro x w2 ⟨rfl,y1,hx2,q1⟩;(replace hx:=hx2);clear hx2)|(go_at_call 9;(with_reducible refine(Rt.nd0 hx _ _ _).mono ?_);rintro x w2 ⟨b1,rfl,hx2⟩;(replace hx:=hx2);clear hx2))
 have hw2:=hid (gF HY.out g).symm
 obtain⟨st1,Af⟩:∃st1,bJ (.ok s)=st1:=⟨_,rfl⟩
 rw[Af] at hx q1 hw2
 clear Af
 cases gs:bR bV st1
 ·go_upto_region 27 with(go_at_call 11;(with_reducible refine(Rt.nG hx _ (by decide) gs).mono ?_);rintro x w2 ⟨rfl,hw⟩;(have hw':=hw.symm);subst hw';clear hw)
  have iy:=hid (show Fo.len Fo.nil<=6010 by show (0:Nat)<=6010;omega)
  obtain⟨u,bk,hbr⟩:=Bt.of (hx.x.ts (b1,Fo.one ⟨15,y.a,⟨#[]⟩,0,0⟩ Fo.nil) (by simp))
  have hlen:=cZ.len hbr.kids
  obtain⟨uo,uc,rfl⟩:=hbr.slice
  replace hx:=hx.drew
  have HB:=hid (hbr.upd hx.x.lt (It.bL.of_below (aH _ _).drew))
  have HL:=hid hlen
  clear hbr hlen
  refine It.bM (z:=11) (S:=λw'=>w'.cell? ⟨b1,6,none⟩=some (Value.slice uo bk.length uc)) (by kernel_rfl) ?_
  have hS:_:=(aA HB.out.top 6:_=some (Value.slice uo bk.length uc))
  iterate 6 ((refine It.nL 0 ?_ rfl (by kernel_rfl) (λ_ _ _ h=>h) (Or.inl ⟨by rfl,?_⟩) hS ?_);rotate_left;(focus (intro w' hSw;go_simp;(try with_reducible rfl)));(try simp only[Act.put,aW,aV,aU,aT,aS,aR]))
  refine It.aD (i:=6) (by kernel_rfl) rfl rfl (λK hK=>?_)
  refine It.aB (λc h=>by cases h) ?_
  have HK:=hid hK
  clear hK
  go_simp
  refine(Rt.jZ hx ce (by have:=HN.out;omega)).mono ?_
  rintro e w2 ⟨b3,m3,k3,gT,y3,rfl,hx2,hU,hfx,ho3,hc3,xw⟩
  have hb2:=HB.out.upd hx.x.lt hU
  refine HK.out _ _ (.inr (aA hb2.top 6)) ?_
  clear HK hS
  (try simp only[Act.put,aW,aV,aU,aT,aS,aR])
  obtain⟨u2,w4,hrun,ho2,hg2,hk2⟩:=bS w2 44 (.slice uo bk.length uc) bk.length _ hb2.row hx2.x.upd.size b3 (by have:=HL.out;have:=iy.out;omega)
  obtain⟨o2,c2,rfl⟩:=aI ho2
  refine It.aD (i:=7) (by kernel_rfl) rfl rfl (λK hK=>?_)
  refine It.aB (λc h=>by cases h) ?_
  have HK:=hid hK
  clear hK
  go_simp
  have hb3:=aF hb2.top ((aH _ w2).alloc (aL _) (.cells #[ptr b3] 40))
  refine HK.out _ _ (.inr (aA hb3 6)) ?_
  clear HK
  (try simp only[Act.put,aW,aV,aU,aT,aS,aR])
  refine It.aD (i:=8) (by kernel_rfl) rfl rfl (λK hK=>?_)
  refine It.aB (λc h=>by cases h) ?_
  refine bO _ (.tmp 84) (.tmp 87) 44 44 rfl _ _ rfl rfl _ _ hrun ?_
  have t4:=(hg2.block _ (aY.1 hb3).1 (λe=>HB.out.ne _ e.symm rfl)).trans hb3
  have hS:_:=(aA t4 6:_=some (Value.slice uo bk.length uc))
  refine hK _ _ (.inr hS) ?_
  clear hK K hrun
  (try simp only[Act.put,aW,aV,aU,aT,aS,aR])
  refine It.aD (i:=9) (by kernel_rfl) rfl rfl (λK hK=>?_)
  refine It.aB (λc h=>by cases h) ?_
  have HK:=hid hK
  clear hK
  go_simp
  refine HK.out _ _ (.inr hS) ?_
  clear HK
  (try simp only[Act.put,aW,aV,aU,aT,aS,aR])
  refine It.aD (i:=10) (by kernel_rfl) rfl rfl (λK hK=>?_)
  refine It.aB (λc h=>by cases h) ?_
  have HK:=hid hK
  clear hK
  go_simp
  refine HK.out _ _ (.inr hS) ?_
  clear HK
  (try simp only[Act.put,aW,aV,aU,aT,aS,aR])
  refine It.aD (i:=11) (by kernel_rfl) rfl rfl (λK hK=>?_)
  refine It.aB (λc h=>by cases h) ?_
  have HK:=hid hK
  clear hK
  have zz:=aC t4 6
  go_simp
  have hx3:=Rt.append hx2 hU hx.x.upd.size HB.out hfx ho2 hg2 hk2
  refine HK.out _ _ (.inl rfl) ?_
  clear HK
  (try simp only[Act.put,aW,aV,aU,aT,aS,aR])
  replace hx:=hx3
  clear hx3 hx2 hU hfx HB HL hb2 hb3 t4 zz hS ho2 hg2 hk2
  refine It.bQ (by kernel_rfl) ?_ _
  go_wp2_with (go_at_call 14;(with_reducible refine(Rt.want hx _ (by decide)).mono ?_);rintro x w2 ⟨rfl,y4,hx2,q4⟩;(replace hx:=hx2);clear hx2)
  go_ret
  exact hx.res (ay ..) (yM HY.out g (OL HY.out hw2.out gs ho3 rfl (λv e=>by cases e;rfl))) (dD (by decide) (by decide))
 ·cases st1 with
  | error e=>cases gs
  | ok s1=>
   have Gp:=hid hx.ok
   go_wp2_with (first|(go_at_call 11;(with_reducible refine(Rt.lX hx _ (by decide) gs).mono ?_);rintro x w2 ⟨rfl,hw⟩;(have hw':=hw.symm);subst hw';clear hw)|(go_at_call 14;(with_reducible refine(Rt.want hx _ (by decide)).mono ?_);rintro x w2 ⟨rfl,y4,hx2,q4⟩;(replace hx:=hx2);clear hx2))
   go_ret
   exact hx.res (ay ..) (yM HY.out g (by rw[gF Gp.out gs];exact OM HY.out hw2.out gs)) (dD (by decide) (by decide))
theorem KX{W:World}{rb n:Nat}{l:ByteArray}{s:Cs}{y:Yd}(ce:nO 71 .ex n)(hx0:Rx W W rb l (.ok s) y [])(hn:mu (.ok s)<=n)(g1:bR fU (.ok s)=false)(g2:bR jV (.ok s)=false)(g3:bR dU (.ok s)=false)(g4:bR dZ (.ok s)=false)(g5:bR jH (.ok s)=false)(g6:bR fD (.ok s)=false)(g7:bR gD (.ok s)=false)(g:bR oF (.ok s)=true):Calls prog 43 #[ptr rb] W (qH W rb l .st (.ok s)):=by
 have hx:=Rt.start hx0
 have HY:=hid hx.ok
 have HN:=hid hn
 obtain⟨_,_,c2,_,_,_⟩:=hx.cells
 clear hn
 go_enter func43,ntmps43
 clear hx0
 go_upto_region 32 with(first|((with_reducible (apply Calls.mono;first|exact Rt.nG hx _ (by decide) (by assumption)|exact Rt.lX hx _ (by decide) (by assumption)));rintro x w2 ⟨rfl,hw⟩;(have hw':=hw.symm);subst hw';clear hw)|(go_at_call 12;(with_reducible refine(Rt.stepT hx oF (by decide) g).mono ?_);rintro x w2 ⟨rfl,y1,hx2,q1⟩;(replace hx:=hx2);clear hx2))
 go_wp2_with (first|(go_at_call 71;(with_reducible refine(Rt.part hx ce (by have:=HN.out;omega)).mono ?_);rintro x w2 ⟨b3,m3,k3,gT,y3,rfl,hx2,ho3,hc3,xw⟩;(replace hx:=hx2);clear hx2)|(go_at_call 9;(with_reducible refine(Rt.Od (b1:=b3) (f1:=Fo.one m3 k3) hx _ _ _ (by simp)).mono ?_);rintro x w2 ⟨b0,rfl,hx2⟩;(replace hx:=hx2);clear hx2)|(go_at_call 14;(with_reducible refine(Rt.want hx _ (by decide)).mono ?_);rintro x w2 ⟨rfl,y4,hx2,q4⟩;(replace hx:=hx2);clear hx2))
 go_ret
 exact hx.res (ay ..) (RL HY.out g (VJ HY.out (gF HY.out g).symm ho3 rfl (λv e=>by cases e;rfl))) (dD (by decide) (by decide))
end Go.Proofs.YtgchnkgolclmgaaGreatDoor.W.Tr
