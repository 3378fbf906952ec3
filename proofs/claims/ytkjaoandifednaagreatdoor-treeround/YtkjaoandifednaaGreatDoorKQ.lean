import Derived.Test.YtkjaoandifednaaGreatDoorKP
import Derived.Test.YtkjaoandifednaaGreatDoorKS
namespace Go.Proofs.YtkjaoandifednaaGreatDoor.W.Tr
set_option linter.unusedVariables false
set_option linter.unusedSimpArgs false
section
variable {n lb:Nd} {x y v c b f t l:Fo}
theorem wh_core (hc:Ex c) (hb:Blk b) {y1:Yd} {cb L:List Yd} {o:Int} (c1:y1.c=0) (t1:y1.t=tkOf ⟨#[119,104,105,108,101]⟩) (hl:Lx (tx c ++ tx b) cb):Og (fun m=>P m .wh) ⟨y1 :: (cb ++ L),o⟩ (fun x' s'=>∃ c' b',x'=Fo.one (atN 10 y1) (c'.app b')∧bareF c'=bareF c∧bareF b'=bareF b∧s'=⟨L,o⟩):=by
 have f1:=fx t1 (by simp [lits])
 obtain ⟨cs,bs,z1,M,rfl,h1,h2,e,sz⟩:=cond_blk hc hb hl
 rw [List.append_assoc]
 refine Og.P ?_
 simp only [P]
 refine Og.wantB (y:=y1) rfl c1 f1 ?_
 rw [be_no (by rw [f1];decide)]
 refine Og.bind (E_cb hc hb h1 e sz) ?_
 rintro c' s' ⟨hc',rfl⟩
 refine Og.bind (hb.2.2 bs L o h2) ?_
 rintro b' s' ⟨hb',rfl⟩
 exact Og.pure ⟨c',b',rfl,hc',hb',rfl⟩
theorem nm_sts {t:ByteArray} (h:nameP t=true) (hs:t.size≤6000):fixedT (tkOf t) ≠ k_rcu∧fixedT (tkOf t) ≠ k_else:=by
 have f0:fixedT (tkOf t)=⟨#[]⟩:=by rw [(name_gt h hs).2];exact fx_none (by show (1:Int) ≠ 2;decide) (by show (1:Int) ≠ 3;decide)
 rw [f0]
 exact ⟨by decide,by decide⟩
theorem st_label {y0 y1:Yd} {M:List Yd} {o:Int} {Q:Fo→Cs→Prop} {w:ByteArray} (h:nameP w=true) (hs:w.size≤6000) (c0:y0.c=0) (t0:y0.t=tkOf w) (c1:y1.c=0) (t1:y1.t=tkOf ⟨#[58]⟩) (hp:Og (fun m=>lookM.bind fun z=>if fixedT z.t=k_for then (P m .fr).bind fun f=>Pm.pure (match f with | .cons m ks r=>.cons m ((Fo.one (ofN 12 y0) .nil).app ks) r | .nil=>.nil) else (P m .wh).bind fun f=>Pm.pure (match f with | .cons m ks r=>.cons ⟨m.kind,m.a,y0.t.text,m.int,m.bits⟩ ks r | .nil=>.nil)) ⟨M,o⟩ Q):Og (fun m=>P m .st) ⟨y0 :: y1 :: M,o⟩ Q:=by
 obtain ⟨k1,f0,x1,x2,x3⟩:=nm_tok h hs t0
 have f1:=fx t1 (by simp [lits])
 refine st_skip (y:=y0) rfl c0 (by rw [f0];decide) (by rw [f0];decide) (by rw [f0];decide) (by rw [f0];decide) (by rw [f0];decide) (by rw [f0];decide) (by rw [f0];decide) (by rw [f0];decide) ?_
 refine Og.pos ⟨k1,by simp [colon,c1,f1]⟩ ?_
 refine Og.P ?_
 simp only [P]
 refine Og.nameB (y:=y0) rfl c0 k1 ?_
 rw [be_no (by rw [f0];decide)]
 refine Og.wantB (y:=y1) rfl c1 f1 ?_
 rw [be_no (by rw [f1];decide)]
 exact hp
theorem sts_while (hk:n.kind=10) (hn:NG n) (hN:NdK n) (hc:Ex c) (hb:Blk b):Sts (.cons n (c.app b) .nil):=by
 have hz:=ng_zero hn (by omega) (by omega)
 have hl2:(c.app b).len=2:=by rw [len_app,hc.2.2.2,hb.1]
 have hw:tkN flP (n,2)=if n.text.toList == [] then [⟨#[119,104,105,108,101]⟩,tK,tK] else [n.text,⟨#[58]⟩,⟨#[119,104,105,108,101]⟩,tK,tK]:=by
  obtain ⟨k,a,t,i,b⟩:=n
  simp only at hk
  subst hk
  rfl
 have hfl:fillT [⟨#[119,104,105,108,101]⟩,tK,tK] [tx c,tx b]=⟨#[119,104,105,108,101]⟩ :: (tx c ++ tx b):=by
  rw [fill_w (isK_lit _ _),fill_k isK_tK,fill_k isK_tK]
  simp [fillT]
 have ht:n.text=⟨#[]⟩∨nameP n.text=true:=by
  have h:=hn.1
  rw [hk] at h
  have h:textP 2 n.text=true:=h
  unfold textP at h
  simp only [Int.reduceEq,if_false,if_true,Bool.or_eq_true] at h
  rcases h with h | h
  ·have e:=lst n.text []
   rw [h] at e
   exact .inl (of_decide_eq_true e)
  ·exact .inr h
 rcases ht with ht | ht
 ·have htx:tx (.cons n (c.app b) .nil)=⟨#[119,104,105,108,101]⟩ :: (tx c ++ tx b):=by
   rw [tx_one,hl2,hw,ht,if_pos (by kernel_rfl),tkl_app,tkl_one hc.2.2.2,tkl_one hb.1]
   exact hfl
  refine ⟨rfl,⟨_,_,htx,lit_sts (by simp [lits]) (by decide) (by decide)⟩,?_⟩
  intro ys z L o hl hzz hne
  rw [htx] at hl
  obtain ⟨y1,r1,rfl,t1,c1,hl⟩:=hl.cons
  have f1:=fx t1 (by simp [lits])
  refine Og.P ?_
  simp only [P]
  refine Og.lookB (y:=y1) rfl c1 (Og.neg (by rw [f1];decide) (Og.neg (by rw [f1];decide) (Og.pos f1 ?_)))
  refine (wh_core hc hb (L:=z :: L) (o:=o) c1 t1 hl).mono ?_
  rintro x' s' ⟨c',b',rfl,hc',hb',rfl⟩
  refine ⟨bare_two ?_ hc' hb',rfl⟩
  unfold bareN atN
  rw [hz.1,hz.2,ht,hk]
 ·have hf:(n.text.toList == [])=false:=k_name ht
  have htx:tx (.cons n (c.app b) .nil)=n.text :: ⟨#[58]⟩ :: ⟨#[119,104,105,108,101]⟩ :: (tx c ++ tx b):=by
   rw [tx_one,hl2,hw,hf,if_neg (by decide),tkl_app,tkl_one hc.2.2.2,tkl_one hb.1,fill_w (k_name ht),fill_w (isK_lit _ _)]
   show _ :: _ :: fillT _ [tx c,tx b]=_
   rw [hfl]
  refine ⟨rfl,⟨_,_,htx,nm_sts ht hN.2.1⟩,?_⟩
  intro ys z L o hl hzz hne
  rw [htx] at hl
  obtain ⟨y0,r0,rfl,t0,c0,hl⟩:=hl.cons
  obtain ⟨y2,r2,rfl,t2,c2,hl⟩:=hl.cons
  obtain ⟨y1,r1,rfl,t1,c1,hl⟩:=hl.cons
  have f1:=fx t1 (by simp [lits])
  obtain ⟨k1,f0,x1,x2,x3⟩:=nm_tok ht hN.2.1 t0
  refine st_label ht hN.2.1 c0 t0 c2 t2 ?_
  refine Og.lookB (y:=y1) rfl c1 (Og.neg (by rw [f1];decide) ?_)
  refine Og.bind (wh_core hc hb (L:=z :: L) (o:=o) c1 t1 hl) ?_
  rintro x' s' ⟨c',b',rfl,hc',hb',rfl⟩
  refine Og.pure ⟨?_,rfl⟩
  show bareF (Fo.one ⟨10,y1.a,y0.t.text,0,0⟩ (c'.app b'))=_
  refine bare_two ?_ hc' hb'
  unfold bareN
  rw [hz.1,hz.2,hk]
  simp only
  rw [x1]
def Frx (x:Fo):Prop:=∃ n f t b,x=.cons n ((f.app t).app b) .nil∧n.kind=11∧NG n∧NdK n∧Ex f∧Ex t∧Blk b
theorem fr_core (hk:n.kind=11) (hn:NG n) (hN:NdK n) (hf:Ex f) (ht:Ex t) (hb:Blk b) {ys L:List Yd} {o:Int} (hl:Lx (⟨#[102,111,114]⟩ :: n.text :: ⟨#[105,110]⟩ :: (tx f ++ ⟨#[46,46]⟩ :: (tx t ++ tx b))) ys):∃ y1 r,ys=y1 :: r∧y1.c=0∧fixedT y1.t=k_for∧Og (fun m=>P m .fr) ⟨ys ++ L,o⟩ (fun x' s'=>∃ m ks,x'=.cons m ks .nil∧bareN m=bareN n∧bareF ks=bareF ((f.app t).app b)∧s'=⟨L,o⟩):=by
 have hz:=ng_zero hn (by omega) (by omega)
 have hnm:nameP n.text=true:=by
  have h:=hn.1
  rw [hk] at h
  exact h
 obtain ⟨y1,r1,rfl,t1,c1,hl⟩:=hl.cons
 obtain ⟨y2,r2,rfl,t2,c2,hl⟩:=hl.cons
 obtain ⟨y3,r3,rfl,t3,c3,hl⟩:=hl.cons
 obtain ⟨fs,r4,rfl,hfs,hl⟩:=hl.app
 obtain ⟨y4,tb,rfl,t4,c4,hl⟩:=hl.cons
 obtain ⟨cs,bs,z1,M,rfl,h1,h2,e,sz⟩:=cond_blk ht hb hl
 have f1:=fx t1 (by simp [lits])
 obtain ⟨k2,f2,x1,x2,x3⟩:=nm_tok hnm hN.2.1 t2
 have f3:=fx t3 (by simp [lits])
 have f4:=fx t4 (by simp [lits])
 refine ⟨y1,_,rfl,c1,f1,?_⟩
 have e2:y1 :: y2 :: y3 :: (fs ++ y4 :: (cs ++ bs)) ++ L=y1 :: y2 :: y3 :: (fs ++ y4 :: (cs ++ (bs ++ L))):=by simp
 rw [e2]
 refine Og.P ?_
 simp only [P]
 refine Og.wantB (y:=y1) rfl c1 f1 ?_
 rw [be_no (by rw [f1];decide)]
 refine Og.nameB (y:=y2) rfl c2 k2 ?_
 rw [be_no (by rw [f2];decide)]
 refine Og.wantB (y:=y3) rfl c3 f3 ?_
 rw [be_no (by rw [f3];decide)]
 refine Og.bind (E_ex hf hfs (stq_dots c4 t4)) ?_
 rintro f' s' ⟨hf',rfl⟩
 refine Og.wantB (y:=y4) rfl c4 f4 ?_
 rw [be_no (by rw [f4];decide)]
 refine Og.bind (E_cb ht hb h1 e sz) ?_
 rintro t' s' ⟨ht',rfl⟩
 refine Og.bind (hb.2.2 bs L o h2) ?_
 rintro b' s' ⟨hb',rfl⟩
 refine Og.pure ⟨⟨11,y1.a,y2.t.text,0,0⟩,(f'.app t').app b',rfl,?_,?_,rfl⟩
 ·unfold bareN
  rw [hz.1,hz.2,hk]
  simp only
  rw [x1]
 ·rw [bare_app,bare_app,bare_app,bare_app,hf',ht',hb']
theorem sts_for (h:Frx x):Sts x:=by
 obtain ⟨n,f,t,b,rfl,hk,hn,hN,hf,ht,hb⟩:=h
 have hnm:nameP n.text=true:=by
  have h:=hn.1
  rw [hk] at h
  exact h
 have hl3:((f.app t).app b).len=3:=by rw [len_app,len_app,hf.2.2.2,ht.2.2.2,hb.1]
 have htx:tx (.cons n ((f.app t).app b) .nil)=⟨#[102,111,114]⟩ :: n.text :: ⟨#[105,110]⟩ :: (tx f ++ ⟨#[46,46]⟩ :: (tx t ++ tx b)):=by
  have hw:tkN flP (n,3)=[⟨#[102,111,114]⟩,n.text,⟨#[105,110]⟩,tK,⟨#[46,46]⟩,tK,tK]:=by
   obtain ⟨k,a,t,i,b⟩:=n
   simp only at hk
   subst hk
   rfl
  rw [tx_one,hl3,hw,tkl_app,tkl_app,tkl_one hf.2.2.2,tkl_one ht.2.2.2,tkl_one hb.1]
  show fillT _ [tx f,tx t,tx b]=_
  rw [fill_w (isK_lit _ _),fill_w (k_name hnm),fill_w (isK_lit _ _),fill_k isK_tK,fill_w (isK_lit _ _),fill_k isK_tK,fill_k isK_tK]
  simp [fillT]
 refine ⟨rfl,⟨_,_,htx,lit_sts (by simp [lits]) (by decide) (by decide)⟩,?_⟩
 intro ys z L o hl hzz hne
 rw [htx] at hl
 obtain ⟨y1,r,rfl,c1,f1,hc⟩:=fr_core hk hn hN hf ht hb (L:=z :: L) (o:=o) hl
 refine Og.P ?_
 simp only [P]
 refine Og.lookB (y:=y1) rfl c1 (Og.neg (by rw [f1];decide) (Og.neg (by rw [f1];decide) (Og.neg (by rw [f1];decide) (Og.pos f1 ?_))))
 refine hc.mono ?_
 rintro x' s' ⟨m,ks,rfl,h1,h2,rfl⟩
 exact ⟨bare_one h1 h2,rfl⟩
theorem sts_lfor (h:Frx (.cons n l .nil)) (hlk:lb.kind=12) (hln:NG lb) (hlN:NdK lb):Sts (.cons n (.cons lb .nil l) .nil):=by
 obtain ⟨n',f,t,b,e,hk,hn,hN,hf,ht,hb⟩:=h
 injection e with e1 e2
 subst e1 e2
 have hnm:nameP n.text=true:=by
  have h:=hn.1
  rw [hk] at h
  exact h
 have hlm:nameP lb.text=true:=by
  have h:=hln.1
  rw [hlk] at h
  exact h
 have hlz:=ng_zero hln (by omega) (by omega)
 have hl3:((f.app t).app b).len=3:=by rw [len_app,len_app,hf.2.2.2,ht.2.2.2,hb.1]
 have hl4:(Fo.cons lb .nil ((f.app t).app b)).len=4:=by show ((f.app t).app b).len + 1=4;omega
 have htl:tx (.cons lb .nil .nil)=[lb.text,⟨#[58]⟩]:=by
  have hw:tkN flP (lb,0)=[lb.text,⟨#[58]⟩]:=by
   obtain ⟨k,a,t,i,b⟩:=lb
   simp only at hlk
   subst hlk
   rfl
  rw [tx_one,show Fo.nil.len=0 from rfl,hw,fill_w (k_name hlm),fill_w (isK_lit _ _)]
  rfl
 have htx:tx (.cons n (.cons lb .nil ((f.app t).app b)) .nil)=lb.text :: ⟨#[58]⟩ :: ⟨#[102,111,114]⟩ :: n.text :: ⟨#[105,110]⟩ :: (tx f ++ ⟨#[46,46]⟩ :: (tx t ++ tx b)):=by
  have hw:tkN flP (n,4)=[tK,⟨#[102,111,114]⟩,n.text,⟨#[105,110]⟩,tK,⟨#[46,46]⟩,tK,tK]:=by
   obtain ⟨k,a,t,i,b⟩:=n
   simp only at hk
   subst hk
   rfl
  rw [tx_one,hl4,hw,tkl_cons,htl,tkl_app,tkl_app,tkl_one hf.2.2.2,tkl_one ht.2.2.2,tkl_one hb.1]
  show fillT _ [[lb.text,⟨#[58]⟩],tx f,tx t,tx b]=_
  rw [fill_k isK_tK,fill_w (isK_lit _ _),fill_w (k_name hnm),fill_w (isK_lit _ _),fill_k isK_tK,fill_w (isK_lit _ _),fill_k isK_tK,fill_k isK_tK]
  simp [fillT]
 refine ⟨rfl,⟨_,_,htx,nm_sts hlm hlN.2.1⟩,?_⟩
 intro ys z L o hl hzz hne
 rw [htx] at hl
 obtain ⟨y0,r0,rfl,t0,c0,hl⟩:=hl.cons
 obtain ⟨y2,r2,rfl,t2,c2,hl⟩:=hl.cons
 obtain ⟨y1,r,rfl,c1,f1,hc⟩:=fr_core hk hn hN hf ht hb (L:=z :: L) (o:=o) hl
 obtain ⟨k1,f0,x1,x2,x3⟩:=nm_tok hlm hlN.2.1 t0
 refine st_label hlm hlN.2.1 c0 t0 c2 t2 ?_
 refine Og.lookB (y:=y1) rfl c1 (Og.pos f1 ?_)
 refine Og.bind hc ?_
 rintro x' s' ⟨m,ks,rfl,h1,h2,rfl⟩
 refine Og.pure ⟨?_,rfl⟩
 show bareF (.cons m (.cons (ofN 12 y0) .nil ks) .nil)=_
 simp only [bareF,h1,h2]
 congr 2
 exact bare_of hlk hln x1 (by rw [x2,hlz.1]) (by rw [x3,hlz.2])
theorem itm_pm (hk:n.kind=4) (hn:NG n) (hN:NdK n):Itm .pm (.cons n .nil .nil):=by
 have hnm:nameP n.text=true:=by
  have h:=hn.1
  rw [hk] at h
  exact h
 have hz:=ng_zero hn (by omega) (by omega)
 have htx:tx (.cons n .nil .nil)=[n.text]:=leaf_tx (k_name hnm) (by obtain ⟨k,a,t,i,b⟩:=n;simp only at hk;subst hk;rfl)
 have f0:fixedT (tkOf n.text)=⟨#[]⟩:=by rw [(name_gt hnm hN.2.1).2];exact fx_none (by show (1:Int) ≠ 2;decide) (by show (1:Int) ≠ 3;decide)
 refine ⟨⟨_,_,htx,by rw [f0];decide⟩,?_⟩
 intro ys z L o hl hzz
 rw [htx] at hl
 obtain ⟨y0,r0,rfl,t0,c0,hl⟩:=hl.cons
 obtain rfl:=hl.nil
 obtain ⟨k1,f1,x1,x2,x3⟩:=nm_tok hnm hN.2.1 t0
 refine Og.P ?_
 simp only [P]
 refine Og.nameB (y:=y0) rfl c0 k1 ?_
 show Og _ (behind y0 ⟨y0 :: z :: L,o⟩) _
 rw [be_no (by rw [f1];decide)]
 exact Og.pure ⟨bare_one (bare_of hk hn x1 (by rw [x2,hz.1]) (by rw [x3,hz.2])) rfl,rfl⟩
def Unt (x:Fo):Prop:=x.len=1∧∃ s ts,tx x=s :: ts∧(s=k_let∧(∀ ys L o,Lx (tx x) ys→Og (fun m=>P m .gl) ⟨ys ++ L,o⟩ (Re x L o))∨s=k_fn∧∀ ys L o,Lx (tx x) ys→Og (fun m=>P m .fu) ⟨ys ++ L,o⟩ (Re x L o))
theorem unt_gl (hk:n.kind=2) (hn:NG n) (hN:NdK n):Unt (.cons n .nil .nil):=by
 have hnm:nameP n.text=true:=by
  have h:=hn.1
  rw [hk] at h
  exact h
 have hz:=ng_zero hn (by omega) (by omega)
 have htx:tx (.cons n .nil .nil)=[⟨#[108,101,116]⟩,n.text,⟨#[59]⟩]:=by
  have hw:tkN flP (n,0)=[⟨#[108,101,116]⟩,n.text,⟨#[59]⟩]:=by
   obtain ⟨k,a,t,i,b⟩:=n
   simp only at hk
   subst hk
   rfl
  rw [tx_one,show Fo.nil.len=0 from rfl,hw,fill_w (isK_lit _ _),fill_w (k_name hnm),fill_w (isK_lit _ _)]
  rfl
 refine ⟨rfl,_,_,htx,.inl ⟨rfl,?_⟩⟩
 intro ys L o hl
 rw [htx] at hl
 obtain ⟨y0,r0,rfl,t0,c0,hl⟩:=hl.cons
 obtain ⟨y1,r1,rfl,t1,c1,hl⟩:=hl.cons
 obtain ⟨y2,r2,rfl,t2,c2,hl⟩:=hl.cons
 obtain rfl:=hl.nil
 have f0:=fx t0 (by simp [lits])
 obtain ⟨k1,f1,x1,x2,x3⟩:=nm_tok hnm hN.2.1 t1
 have f2:=fx t2 (by simp [lits])
 show Og _ ⟨y0 :: y1 :: y2 :: L,o⟩ _
 refine Og.P ?_
 simp only [P]
 refine Og.wantB (y:=y0) rfl c0 f0 ?_
 rw [be_no (by rw [f0];decide)]
 refine Og.nameB (y:=y1) rfl c1 k1 ?_
 rw [be_no (by rw [f1];decide)]
 refine Og.wantB (y:=y2) rfl c2 f2 ?_
 rw [be_no (by rw [f2];decide)]
 exact Og.pure ⟨bare_one (bare_of hk hn x1 (by rw [x2,hz.1]) (by rw [x3,hz.2])) rfl,rfl⟩
theorem unt_fu (hk:n.kind=3) (hn:NG n) (hN:NdK n) (he:EachT (Itm .pm) l) (hb:Blk b):Unt (.cons n (l.app b) .nil):=by
 have hnm:nameP n.text=true:=by
  have h:=hn.1
  rw [hk] at h
  exact h
 have hz:=ng_zero hn (by omega) (by omega)
 have hll:(l.app b).len=l.len + 1:=by rw [len_app,hb.1]
 have htx:tx (.cons n (l.app b) .nil)=⟨#[102,110]⟩ :: n.text :: ⟨#[40]⟩ :: (comJ (tkl (tkN flP) l) ++ ⟨#[41]⟩ :: tx b):=by
  have hw:tkN flP (n,l.len + 1)=⟨#[102,110]⟩ :: n.text :: ⟨#[40]⟩ :: (comT (tkl (tkN flP) l).length ++ [⟨#[41]⟩,tK]):=by
   rw [tkl_len]
   obtain ⟨k,a,t,i,b⟩:=n
   simp only at hk
   subst hk
   simp [tkN,tokP]
  have hfc:∀ (A B:List (List ByteArray)) (rest:List ByteArray),fillT (comT A.length ++ rest) (A ++ B)=comJ A ++ fillT rest B:=by
   intro A B rest
   cases A with
   | nil=>rfl
   | cons X r=>
    have e:comT (X :: r).length=repT r.length [tK,⟨#[44]⟩] ++ [tK]:=by unfold comT;rw [if_neg (by simp)];simp
    rw [e]
    clear e
    induction r generalizing X with
    | nil=>
     show fillT (tK :: rest) (X :: B)=_
     rw [fill_k isK_tK]
     simp [comJ,commaT]
    | cons Y r ih=>
     have e:repT (Y :: r).length [tK,⟨#[44]⟩]=tK :: ⟨#[44]⟩ :: repT r.length [tK,⟨#[44]⟩]:=by simp [repT,List.replicate_succ]
     rw [e]
     show fillT (tK :: ⟨#[44]⟩ :: (repT r.length [tK,⟨#[44]⟩] ++ [tK] ++ rest)) (X :: (Y :: r ++ B))=_
     rw [fill_k isK_tK,fill_w (isK_lit _ _),ih Y]
     simp [comJ,commaT]
  rw [tx_one,hll,hw,tkl_app,tkl_one hb.1,fill_w (isK_lit _ _),fill_w (k_name hnm),fill_w (isK_lit _ _),hfc,fill_w (isK_lit _ _),fill_k isK_tK]
  simp [fillT]
 refine ⟨rfl,_,_,htx,.inr ⟨rfl,?_⟩⟩
 intro ys L o hl
 rw [htx] at hl
 obtain ⟨y0,r0,rfl,t0,c0,hl⟩:=hl.cons
 obtain ⟨y1,r1,rfl,t1,c1,hl⟩:=hl.cons
 obtain ⟨y2,r2,rfl,t2,c2,hl⟩:=hl.cons
 obtain ⟨ps,r3,rfl,hps,hl⟩:=hl.app
 obtain ⟨y3,bs,rfl,t3,c3,hl⟩:=hl.cons
 have f0:=fx t0 (by simp [lits])
 obtain ⟨k1,f1,x1,x2,x3⟩:=nm_tok hnm hN.2.1 t1
 have f2:=fx t2 (by simp [lits])
 have e3:y0 :: y1 :: y2 :: (ps ++ y3 :: bs) ++ L=y0 :: y1 :: y2 :: (ps ++ y3 :: (bs ++ L)):=by simp
 rw [e3]
 refine Og.P ?_
 simp only [P]
 refine Og.wantB (y:=y0) rfl c0 f0 ?_
 rw [be_no (by rw [f0];decide)]
 refine Og.nameB (y:=y1) rfl c1 k1 ?_
 rw [be_no (by rw [f1];decide)]
 refine Og.bind (R:=fun a s'=>bareF a=bareF l∧s'=⟨bs ++ L,o⟩) ?_ ?_
 ·refine Og.P ?_
  simp only [P]
  refine Og.wantB (y:=y2) rfl c2 f2 ?_
  rw [be_open (.inl f2)]
  exact ls_all true l ps y3 (bs ++ L) o he hps c3 t3
 ·rintro a s' ⟨ha,rfl⟩
  refine Og.bind (hb.2.2 bs L o hl) ?_
  rintro b' s' ⟨hb',rfl⟩
  exact Og.pure ⟨bare_two (bare_of hk hn x1 (by rw [x2,hz.1]) (by rw [x3,hz.2])) ha hb',rfl⟩
end
theorem pg_rest:∀ (l acc:Fo) (ys:List Yd) (e:Yd) (o:Int),EachT Unt l→Lx (tx l) ys→e.c=0→e.t.kind=7→Og (fun m=>P m (.pg acc)) ⟨ys ++ [e],o⟩ (fun a s'=>bareF a=bareF (Fo.one ⟨1,0,⟨#[]⟩,0,0⟩ (acc.app l)))
 | .nil,acc,ys,e,o,_,hl,ce,ke=>by
  have h:Lx [] ys:=hl
  rw [h.nil,List.nil_append]
  refine Og.P ?_
  simp only [P]
  refine Og.lookB (y:=e) rfl ce (Og.pos ke (Og.pure ?_))
  rw [app_nil]
 | .cons n ks r,acc,ys,e,o,⟨hi,hr⟩,hl,ce,ke=>by
  rw [tx_cons] at hl
  obtain ⟨xs,rs,rfl,hxs,hrs⟩:=hl.app
  obtain ⟨hl1,s,ts,e0,hcase⟩:=hi
  have hxs2:=hxs
  rw [e0] at hxs2
  obtain ⟨y0,xs',e1,t0,c0,_⟩:=hxs2.cons
  have fin:∀ x',bareF x'=bareF (.cons n ks .nil)→Og (fun m=>P m (.pg (acc.app x'))) ⟨rs ++ [e],o⟩ (fun a s'=>bareF a=bareF (Fo.one ⟨1,0,⟨#[]⟩,0,0⟩ (acc.app (.cons n ks r)))):=fun x' hx'=>by
   refine (pg_rest r (acc.app x') rs e o hr hrs ce ke).mono ?_
   intro a s' h
   rw [h]
   simp only [Fo.one,bareF,bare_app,hx',app_assoc]
   rfl
  rw [List.append_assoc]
  refine Og.P ?_
  simp only [P]
  refine Og.lookB (y:=y0) (L:=xs' ++ (rs ++ [e])) (by rw [e1];rfl) c0 ?_
  rcases hcase with ⟨es,hP⟩ | ⟨es,hP⟩
  ·have tk:=lit_tk (b:=k_let) (by simp [lits])
   rw [es] at t0
   have f0:fixedT y0.t=k_let:=by rw [t0];exact tk.1
   refine Og.neg (by have:=tk.2.2.2.2;rw [← t0] at this;omega) ?_
   rw [if_pos f0]
   refine Og.bind (hP xs (rs ++ [e]) o hxs) ?_
   rintro x' s' ⟨hx',rfl⟩
   exact fin x' hx'
  ·have tk:=lit_tk (b:=k_fn) (by simp [lits])
   rw [es] at t0
   have f0:fixedT y0.t=k_fn:=by rw [t0];exact tk.1
   refine Og.neg (by have:=tk.2.2.2.2;rw [← t0] at this;omega) ?_
   rw [if_neg (by rw [f0];decide)]
   refine Og.bind (hP xs (rs ++ [e]) o hxs) ?_
   rintro x' s' ⟨hx',rfl⟩
   exact fin x' hx'
theorem alln_split:∀ {f g:Fo},AllN (f.app g)→AllN f∧AllN g
 | .nil,g,h=>⟨trivial,h⟩
 | .cons n ks r,g,⟨h1,h2,h3⟩=>⟨⟨h1,h2,(alln_split h3).1⟩,(alln_split h3).2⟩
def Mot:So→Fo→Prop
 | .e,x=>Ex x | .es,x=>EachT Ex x | .b,x=>Blk x | .bi,x=>Blk x∨Sti x | .st,x=>Sts x | .i,x=>Sti x | .w,x=>Sts x
 | .f,x=>Frx x | .ss,x=>EachT Sts x | .pm,x=>Itm .pm x∧x.len=1 | .pms,x=>EachT (Itm .pm) x | .u,x=>Unt x | .us,x=>EachT Unt x
theorem wt_mot {so:So} {f:Fo} (h:Wt so f):AllN f→Mot so f:=by
 induction h with
 | leaf hk hn=>exact fun hN=>ex_leaf hk hn hN.1
 | two hk hn _ _ ix iy=>
  intro hN
  obtain ⟨a,b⟩:=alln_split hN.2.1
  rcases hk with hk | hk | hk | hk
  ·exact ex_or hk hn (ix a) (iy b)
  ·exact ex_and hk hn (ix a) (iy b)
  ·exact ex_bin hk hn (ix a) (iy b)
  ·exact (ex_index hk hn (ix a) (iy b)).1
 | one hk hn _ ix=>
  intro hN
  rcases hk with hk | hk
  ·exact ex_not hk hn (ix hN.2.1)
  ·exact ex_un hk hn (ix hN.2.1)
 | call hk hn _ il=>exact fun hN=>ex_call hk hn hN.1 (il hN.2.1)
 | enil=>exact fun _=>trivial
 | esnoc _ _ il ix=>
  intro hN
  obtain ⟨a,b⟩:=alln_split hN
  exact each_app (il a) (each_one (ix b).2.2.2 (ix b))
 | block hk hn _ il=>exact fun hN=>blk_mk hk hn (il hN.2.1)
 | snil=>exact fun _=>trivial
 | ssnoc _ _ il ix=>
  intro hN
  obtain ⟨a,b⟩:=alln_split hN
  exact each_app (il a) (each_one (ix b).1 (ix b))
 | s1 hk hn _ ix=>
  intro hN
  rcases hk with hk | hk | hk | hk | hk
  ·exact sts_let hk hn hN.1 (ix hN.2.1)
  ·exact sts_assign hk hn hN.1 (ix hN.2.1)
  ·exact sts_ret hk hn (ix hN.2.1)
  ·exact sts_out hk hn (ix hN.2.1)
  ·exact sts_expr hk hn (ix hN.2.1)
 | s0 hk hn=>
  intro hN
  rcases hk with hk | hk | hk
  ·exact sts_jump (.inl hk) hn hN.1
  ·exact sts_jump (.inr hk) hn hN.1
  ·exact sts_ret0 hk hn
 | store hk hn _ _ _ ix iy iv=>
  intro hN
  obtain ⟨a,c⟩:=alln_split hN.2.1
  obtain ⟨a,b⟩:=alln_split a
  exact sts_store hk hn (ix a) (iy b) (iv c)
 | if2 hk hn _ _ ic ib=>
  intro hN
  obtain ⟨a,b⟩:=alln_split hN.2.1
  exact sti_2 hk hn (ic a) (ib b)
 | if3 hk hn _ _ _ ic ib id'=>
  intro hN
  obtain ⟨a,c⟩:=alln_split hN.2.1
  obtain ⟨a,b⟩:=alln_split a
  exact sti_3 hk hn (ic a) (ib b) (id' c)
 | bib _ ih=>exact fun hN=>.inl (ih hN)
 | bii _ ih=>exact fun hN=>.inr (ih hN)
 | sti _ ih=>exact fun hN=>sts_if (ih hN)
 | whil hk hn _ _ ic ib=>
  intro hN
  obtain ⟨a,b⟩:=alln_split hN.2.1
  exact sts_while hk hn hN.1 (ic a) (ib b)
 | stw _ ih=>exact ih
 | fore hk hn _ _ _ if' it ib=>
  intro hN
  obtain ⟨a,c⟩:=alln_split hN.2.1
  obtain ⟨a,b⟩:=alln_split a
  exact ⟨_,_,_,_,rfl,hk,hn,hN.1,if' a,it b,ib c⟩
 | stf _ ih=>exact fun hN=>sts_for (ih hN)
 | lfor _ hlk hln ih=>
  rintro ⟨h1,⟨h2,h3,h4⟩,h5⟩
  exact sts_lfor (ih ⟨h1,h4,h5⟩) hlk hln h2
 | param hk hn=>exact fun hN=>⟨itm_pm hk hn hN.1,rfl⟩
 | pnil=>exact fun _=>trivial
 | psnoc _ _ il ix=>
  intro hN
  obtain ⟨a,b⟩:=alln_split hN
  exact each_app (il a) (each_one (ix b).2 (ix b).1)
 | glob hk hn=>exact fun hN=>unt_gl hk hn hN.1
 | func hk hn _ _ il ib=>
  intro hN
  obtain ⟨a,b⟩:=alln_split hN.2.1
  exact unt_fu hk hn hN.1 (il a) (ib b)
 | unil=>exact fun _=>trivial
 | usnoc _ _ il ix=>
  intro hN
  obtain ⟨a,b⟩:=alln_split hN
  exact each_app (il a) (each_one (ix b).1 (ix b))
def tw (f:Fo):Nat:=((rowF f).map (fun p=>p.1.text.size)).sum
def sw (s:Cs):Nat:=(s.r.map (fun y=>y.t.text.size)).sum
theorem tw_nil:tw .nil=0:=rfl
theorem tw_cons (n:Nd) (k r:Fo):tw (.cons n k r)=n.text.size + (tw k + tw r):=by simp [tw,rowF]
theorem tw_app (f g:Fo):tw (f.app g)=tw f + tw g:=by simp [tw,rowF_app]
theorem tw_one (n:Nd) (k:Fo):tw (Fo.one n k)=n.text.size + tw k:=by simp [Fo.one,tw_cons,tw_nil]
section
variable {s:Cs} {y:Yd}
theorem sw_take (h:look s=.ok y):y.t.text.size + sw (behind y s)=sw s:=by
 have e:=(look_mem h).2.2
 unfold sw behind
 conv=>rhs;rw [e]
 simp
theorem Wv.look {Q:Yd→Cs→Prop} (h:∀ y,Tr.look s=.ok y→Q y s):Wp lookM s Q:=by
 intro b s2 e
 unfold lookM at e
 cases hl:Tr.look s with
 | error _=>rw [hl] at e;cases e
 | ok y=>rw [hl] at e;cases e;exact h _ hl
theorem Wv.take {Q:Yd→Cs→Prop} (h:∀ y s',y.t.text.size + sw s'=sw s→Q y s'):Wp takeM s Q:=by
 intro b s2 e
 unfold takeM at e
 cases hl:Tr.look s with
 | error _=>rw [hl] at e;cases e
 | ok y=>rw [hl] at e;cases e;exact h _ _ (sw_take hl)
theorem Wv.want {t:ByteArray} {Q:Yd→Cs→Prop} (h:∀ y s',y.t.text.size + sw s'=sw s→Q y s'):Wp (wantM t) s Q:=
 Wp.bind (Wp.look fun y=>Wp.ite (fun _=>Wv.take h) (fun _=>Wp.fail))
theorem Wv.name {Q:Yd→Cs→Prop} (h:∀ y s',y.t.text.size + sw s'=sw s→Q y s'):Wp nameM s Q:=
 Wp.bind (Wp.look fun y=>Wp.ite (fun _=>Wv.take h) (fun _=>Wp.fail))
end
def baseW:Nt→Nat
 | .exT l=>tw l | .cjT l=>tw l | .bnT _ l=>tw l | .poT l=>tw l | .lsT _ l=>tw l | .pg l=>tw l | .blT l=>tw l | .asg n ks=>n.text.size + tw ks
 | _=>0
theorem at_size (k:Int) (y:Yd):(atN k y).text.size=0:=rfl
theorem of_size (k:Int) (y:Yd):(ofN k y).text.size=y.t.text.size:=rfl
theorem em_size:(⟨#[]⟩:ByteArray).size=0:=rfl
theorem texts_le (n:Nat):∀ (nt:Nt) (s:Cs),Wp (P n nt) s (fun a s'=>tw a + sw s'≤baseW nt + sw s):=by
 induction n with
 | zero=>intro nt s a s' e;cases e
 | succ n IH=>
  intro nt s
  have ih:∀ (nt:Nt) (s:Cs) (Q:Fo→Cs→Prop),(∀ a s',tw a + sw s'≤baseW nt + sw s→Q a s')→Wp (P n nt) s Q:=fun nt s Q h a s' e=>h a s' (IH nt s a s' e)
  clear IH
  cases nt with
  | pl=>
   unfold P
   refine Wp.bind (ih _ _ _ fun f s1 h1=>?_)
   refine Wp.bind (Wp.look fun z=>?_)
   cases f with
   | nil=>(repeat' (first | (with_reducible refine Wv.want ?_;intro _ _ _) | (with_reducible refine Wv.name ?_;intro _ _ _) | (with_reducible refine Wp.bind ?_) | (with_reducible refine Wp.look ?_;intro _) | (with_reducible refine Wv.take ?_;intro _ _ _) | (with_reducible refine Wp.st ?_) | (with_reducible exact Wp.fail) | (with_reducible refine Wp.pure ?_) | (with_reducible refine ih _ _ _ ?_;intro _ _ _) | (with_reducible refine Wp.ite ?_ ?_ <;> intro _)));clear ih;(simp only [baseW,tw_one,tw_app,tw_nil,tw_cons,at_size,of_size,em_size] at *;omega)
   | cons m ks r=>(repeat' (first | (with_reducible refine Wv.want ?_;intro _ _ _) | (with_reducible refine Wv.name ?_;intro _ _ _) | (with_reducible refine Wp.bind ?_) | (with_reducible refine Wp.look ?_;intro _) | (with_reducible refine Wv.take ?_;intro _ _ _) | (with_reducible refine Wp.st ?_) | (with_reducible exact Wp.fail) | (with_reducible refine Wp.pure ?_) | (with_reducible refine ih _ _ _ ?_;intro _ _ _) | (with_reducible refine Wp.ite ?_ ?_ <;> intro _))) <;> clear ih <;> (simp only [baseW,tw_one,tw_app,tw_nil,tw_cons,at_size,of_size,em_size] at *;omega)
  | lb=>
   unfold P
   (repeat' (first | (with_reducible refine Wv.want ?_;intro _ _ _) | (with_reducible refine Wv.name ?_;intro _ _ _) | (with_reducible refine Wp.bind ?_) | (with_reducible refine Wp.look ?_;intro _) | (with_reducible refine Wv.take ?_;intro _ _ _) | (with_reducible refine Wp.st ?_) | (with_reducible exact Wp.fail) | (with_reducible refine Wp.pure ?_) | (with_reducible refine ih _ _ _ ?_;intro _ _ _) | (with_reducible refine Wp.ite ?_ ?_ <;> intro _)))
   all_goals clear ih
   ·rename_i f s1 h1
    cases f with
    | nil=>(simp only [baseW,tw_one,tw_app,tw_nil,tw_cons,at_size,of_size,em_size] at *;omega)
    | cons m ks r=>(simp only [baseW,tw_one,tw_app,tw_nil,tw_cons,at_size,of_size,em_size] at *;omega)
   ·rename_i f s1 h1
    cases f with
    | nil=>(simp only [baseW,tw_one,tw_app,tw_nil,tw_cons,at_size,of_size,em_size] at *;omega)
    | cons m ks r=>(simp only [baseW,tw_one,tw_app,tw_nil,tw_cons,at_size,of_size,em_size] at *;omega)
  | _=>
   unfold P
   (repeat' (first | (with_reducible refine Wv.want ?_;intro _ _ _) | (with_reducible refine Wv.name ?_;intro _ _ _) | (with_reducible refine Wp.bind ?_) | (with_reducible refine Wp.look ?_;intro _) | (with_reducible refine Wv.take ?_;intro _ _ _) | (with_reducible refine Wp.st ?_) | (with_reducible exact Wp.fail) | (with_reducible refine Wp.pure ?_) | (with_reducible refine ih _ _ _ ?_;intro _ _ _) | (with_reducible refine Wp.ite ?_ ?_ <;> intro _)))
   all_goals clear ih
   all_goals (first | (simp only [baseW,tw_one,tw_app,tw_nil,tw_cons,at_size,of_size,em_size] at *;omega) | (split at * <;> (simp only [baseW,tw_one,tw_app,tw_nil,tw_cons,at_size,of_size,em_size] at *;omega)))
theorem flt_range (r:List UInt8) (h:r.take 2=hexT) (h2:(readF (r.take (dblN r))).2=0):0≤(readF (r.take (dblN r))).1∧(readF (r.take (dblN r))).1≤9218868437227405312:=by
 have hd:2≤dblN r:=by unfold dblN;omega
 obtain ⟨q,e⟩:∃ q,r.take (dblN r)=48 :: 120 :: q:=by
  have e1:(r.take (dblN r)).take 2=hexT:=by rw [List.take_take,Nat.min_eq_left hd,h]
  match hq:r.take (dblN r),e1 with
  | [],e1=>cases e1
  | [a],e1=>exact absurd e1 (by intro h;cases h)
  | a :: b :: q,e1=>
   have e2:[a,b]=hexT:=e1
   have e3:[a,b]=[48,120]:=e2
   injection e3 with x1 x2
   injection x2 with x2
   exact ⟨q,by rw [x1,x2]⟩
 rw [e] at h2 ⊢
 have n1:¬ (48 :: 120 :: q:List UInt8)=nanT:=by intro h;injection h with h;exact absurd h (by decide)
 have n2:¬ (48 :: 120 :: q:List UInt8)=infT:=by intro h;injection h with h;exact absurd h (by decide)
 have n3:¬ (48 :: 120 :: q:List UInt8)=45 :: infT:=by intro h;injection h with h;exact absurd h (by decide)
 have e4:readF (48 :: 120 :: q)=if 64 < (48 :: 120 :: q:List UInt8).length then (0,2) else readS 0 (48 :: 120 :: q):=by
  unfold readF
  rw [if_neg n1,if_neg n2,if_neg n3]
  rfl
 rw [e4] at h2 ⊢
 split
 ·exact ⟨by omega,by omega⟩
 ·rename_i c
  rw [if_neg c] at h2
  unfold readS at h2 ⊢
  simp only at h2 ⊢
  cases hb:readBody q with
  | none=>rw [hb] at h2;exact absurd h2 (by show ¬ (20:Int)=0;decide)
  | some p=>
   obtain ⟨N,low⟩:=p
   rw [hb] at h2
   simp only at h2 ⊢
   cases hx:exactP N low with
   | none=>rw [hx] at h2;exact absurd h2 (by show ¬ (21:Int)=0;decide)
   | some a=>
    obtain ⟨r0,r1⟩:=exact_range _ _ _ hx
    simp only
    omega
theorem readD_pos (d:List UInt8):0≤(readD false d).1:=by
 unfold readD
 split
 ·simp only [Bool.false_eq_true,if_false]
  split
  ·exact Int.natCast_nonneg _
  ·exact Int.le_refl _
 ·exact Int.le_refl _
def TkH (M:Nat) (t:Tk):Prop:=TkG t∧t.text.size≤M∧(-9223372036854775808≤t.int∧t.int≤9223372036854775807)∧0≤t.bits∧t.bits < 18446744073709551616
theorem tkh_mk {M:Nat} {k:Int} {x:ByteArray} (h:k=2∨k=3∨k=6) (hx:x.size≤M):TkH M ⟨k,x,0,0⟩:=by
 refine ⟨⟨fun e=>?_,fun _=>⟨rfl,rfl⟩,fun e=>?_,fun e=>?_,fun _=>⟨rfl,rfl⟩⟩,hx,by simp,by simp,by simp⟩
 all_goals (simp only at e;omega)
theorem tkh_flt {M:Nat} {b:Int} (h0:0≤b) (h:b≤9218868437227405312∨b=9221120237041090560):TkH M ⟨5,⟨#[]⟩,0,b⟩:=by
 refine ⟨⟨fun e=>?_,fun e=>?_,fun e=>?_,fun _=>⟨rfl,rfl,h⟩,fun e=>?_⟩,Nat.zero_le _,by simp,h0,by simp only;omega⟩
 all_goals (simp only at e;omega)
theorem tkh_int {M:Nat} {i:Int} (h0:0≤i) (h:i≤9223372036854775807):TkH M ⟨4,⟨#[]⟩,i,0⟩:=by
 refine ⟨⟨fun e=>?_,fun e=>?_,fun _=>⟨rfl,h0,rfl⟩,fun e=>?_,fun e=>?_⟩,Nat.zero_le _,by simp only;omega,by simp,by simp⟩
 all_goals (simp only at e;omega)
theorem quote_size:∀ (f:Nat) (r:List UInt8) (k:Nat) (acc:List UInt8) (t:Tk) (m:Nat),quoteGo f r k acc=okPc t m→t.text.size + k≤acc.length + m
 | 0,r,k,acc,t,m,h=>(ok_bad (n:=k) (m:=m) (t:=t) (by simpa [quoteGo] using h)).elim
 | f + 1,[],k,acc,t,m,h=>(ok_bad ((quote_end (f + 1) k acc).symm.trans h)).elim
 | f + 1,c :: q,k,acc,t,m,h=>by
  by_cases c1:c=34
  ·have e:=(quote_stop (f + 1) k c q acc (by omega) c1).symm.trans h
   have e1:=congrArg Pc.size e
   have e2:=congrArg (fun p=>p.t.text) e
   have e1:k + 1=m:=e1
   have e2:bytesOf acc=t.text:=e2
   rw [← e2]
   show acc.length + k≤_
   omega
  ·by_cases c2:(speltP (c :: q)).2=0
   ·exact (ok_bad ((quote_bad (f + 1) k c q acc (by omega) c1 c2).symm.trans h)).elim
   ·have h3:=quote_size f _ _ _ t m ((quote_on f k c q acc c1 c2).symm.trans h)
    rw [List.length_append] at h3
    simp only [List.length_cons,List.length_nil] at h3
    omega
def Gd2 (r:List UInt8) (p:Pc):Prop:=p.size ≠ 0→p.code=0→p.t.kind ≠ 0→p.t.kind ≠ 1→TkH p.size p.t
theorem gd_or {r:List UInt8} {a b:Pc} (ha:Gd2 r a) (hb:Gd2 r b):Gd2 r (orPc a b):=by
 unfold orPc
 split
 ·exact hb
 ·exact ha
theorem gd_no (r:List UInt8):Gd2 r noPc:=fun h=>absurd rfl h
theorem gd_bad (r:List UInt8) (n:Nat) (c:Int):Gd2 r (badPc n c):=fun _ _ h=>absurd rfl h
theorem piece_gd (r:List UInt8) (hr:r.length≤6000):Gd2 r (pieceP r):=by
 unfold pieceP
 refine gd_or (fun _ _ h=>absurd rfl h) (gd_or ?_ (gd_or ?_ (gd_or ?_ (gd_or ?_ ?_))))
 ·unfold W.nameP
  split
  ·exact gd_no r
  ·split
   ·exact gd_bad r _ _
   ·intro _ _ _ hk
    have hle:=runN_le nameB r
    have hs:(bytesOf (r.take (runN nameB r))).size≤runN nameB r:=by
     show (r.take (runN nameB r)).length≤_
     rw [List.length_take]
     omega
    show TkH (runN nameB r) (namedT _)
    unfold okPc namedT at hk
    simp only at hk
    unfold namedT
    split
    ·exact tkh_flt (by omega) (.inl (by omega))
    ·split
     ·exact tkh_flt (by omega) (.inr rfl)
     ·split
      ·exact tkh_mk (.inl rfl) hs
      ·rename_i c1 c2 c3
       rw [if_neg c1,if_neg c2,if_neg c3] at hk
       exact absurd rfl hk
 ·unfold doubleP
  split
  ·rename_i c
   split
   ·rename_i c2
    intro _ _ _ _
    obtain ⟨h1,h2⟩:=flt_range r c c2
    exact tkh_flt h1 (.inl h2)
   ·exact gd_bad r _ _
  ·exact gd_no r
 ·unfold wholeP
  split
  ·exact gd_no r
  ·rename_i c
   split
   ·rename_i c2
    intro _ _ _ _
    have hrg:=readI_range (r.take (runN digB r)) (readI (r.take (runN digB r))).1 (readI (r.take (runN digB r))).2 rfl
    have hpos:0≤(readI (r.take (runN digB r))).1:=by
     have hall:∀ x ∈ r.take (runN digB r),digB x=true:=by
      intro x hx
      have e:r.take (runN digB r)=r.takeWhile digB:=take_runN digB r
      rw [e] at hx
      exact List.all_eq_true.1 (List.all_takeWhile (l:=r) (p:=digB)) x hx
     rw [readI_digs _ hall]
     split
     ·simp
     ·exact readD_pos _
    exact tkh_int hpos (by omega)
   ·exact gd_bad r _ _
 ·unfold quotedP
  split
  ·rcases qd_cases (quoteGo r.length (r.drop 1) 1 []) with g | ⟨_,g⟩
   ·rw [g]
    rcases quote_form r.length (r.drop 1) 1 [] with ⟨n,e⟩ | ⟨t,n,e⟩
    ·rw [e];exact gd_bad r _ _
    ·rw [e]
     intro _ _ _ _
     have:=quote_size _ _ _ _ _ _ e
     exact tkh_mk (.inr (.inr rfl)) (by show t.size≤n;simp only [List.length_nil] at this;omega)
   ·rw [g];exact gd_bad r _ _
  ·exact gd_no r
 ·unfold markP
  split
  ·rename_i m _
   intro _ _ _ _
   exact tkh_mk (.inr (.inl rfl)) (Nat.le_refl _)
  ·exact gd_no r
theorem piece_tkh (r:List UInt8) (hr:r.length≤6000) (h1:(pieceP r).size ≠ 0) (h2:(pieceP r).code=0) (h3:(pieceP r).t.kind ≠ 0):TkH (pieceP r).size (pieceP r).t:=by
 by_cases hk:(pieceP r).t.kind=1
 ·have hp:=piece_name r hk
  have hle:=piece_le r
  obtain ⟨n,hn⟩:∃ n,(pieceP r).size=n:=⟨_,rfl⟩
  rw [hn] at hp h1 hle ⊢
  rw [hp]
  have hx:(r.take n) ++ (r.drop n)=r:=List.take_append_drop ..
  have hxl:(r.take n).length=n:=by rw [List.length_take];omega
  have hpx:pieceP (r.take n)=okPc ⟨1,bytesOf (r.take n),0,0⟩ (r.take n).length:=by
   have:=piece_like (r.take n) (r.drop n) [] (.inl rfl) ⟨1,bytesOf (r.take n),0,0⟩ (by intro e;rw [e] at hxl;simp at hxl;omega) (by show (1:Int) ≠ 0;decide) (by rw [hx,hxl];exact hp)
   rw [List.append_nil] at this
   exact this
  have hnm:nameP (bytesOf (r.take n))=true:=by
   unfold nameP
   have:=src_one (r.take n) ⟨1,bytesOf (r.take n),0,0⟩ hpx (by omega) (by omega) (by show ¬ (1:Int)=0;decide)
   rw [show (bytesOf (r.take n)).data.toList=r.take n from rfl,this]
   simp
  refine ⟨⟨fun _=>⟨hnm,rfl,rfl⟩,fun e=>?_,fun e=>?_,fun e=>?_,fun e=>?_⟩,?_,by simp [okPc],by simp [okPc],by simp [okPc]⟩
  ·simp only [okPc] at e;omega
  ·simp only [okPc] at e;omega
  ·simp only [okPc] at e;omega
  ·simp only [okPc] at e;omega
  ·show (r.take n).length≤n
   omega
 ·exact piece_gd r hr h1 h2 h3 hk
theorem T_has (n:Nat):∀ (r:List UInt8) (a:Nat),r.length≤n→r.length≤6000→(∀ y ∈ T r a,TkOk y∧(y.c=0→TkG y.t))∧((T r a).map (fun y=>y.t.text.size)).sum≤r.length:=by
 have no:∀ (a c f:Int),TkOk ⟨noTk,a,c,f⟩:=fun a c f=>⟨(by show (⟨#[]⟩:ByteArray).size≤6000;decide),(by show (-9223372036854775808:Int)≤0∧(0:Int)≤9223372036854775807;decide),(by show (0:Int)≤0;decide),(by show (0:Int) < 18446744073709551616;decide)⟩
 have ne:∀ (a c f:Int),TkOk ⟨endTk,a,c,f⟩:=fun a c f=>⟨(by show (⟨#[]⟩:ByteArray).size≤6000;decide),(by show (-9223372036854775808:Int)≤0∧(0:Int)≤9223372036854775807;decide),(by show (0:Int)≤0;decide),(by show (0:Int) < 18446744073709551616;decide)⟩
 have ge:TkG endTk:=⟨fun e=>absurd e (by decide),fun e=>absurd e (by decide),fun e=>absurd e (by decide),fun e=>absurd e (by decide),fun e=>absurd e (by decide)⟩
 induction n with
 | zero=>
  intro r a hr _
  have hr0:r=[]:=List.eq_nil_of_length_eq_zero (by omega)
  subst hr0
  rw [T_nil]
  refine ⟨fun y hy=>?_,by show 0 + 0≤0;omega⟩
  rw [List.mem_singleton.1 hy]
  exact ⟨ne _ _ _,fun _=>ge⟩
 | succ n ih=>
  intro r a hr h6
  cases r with
  | nil=>exact ih [] a (by simp) (by simp)
  | cons c r=>
   rw [T_step (by simp)]
   have hle:=piece_le (c :: r)
   have hdl:¬ (pieceP (c :: r)).size=0→((c :: r).drop (pieceP (c :: r)).size).length≤n:=fun h=>by rw [List.length_drop];simp at hr ⊢;omega
   have hd6:((c :: r).drop (pieceP (c :: r)).size).length≤6000:=by rw [List.length_drop];omega
   split
   ·refine ⟨fun y hy=>?_,by show 0 + 0≤_;omega⟩
    rw [List.mem_singleton.1 hy]
    exact ⟨no _ _ _,fun e=>absurd e (by show ¬ (60:Int)=0;decide)⟩
   ·rename_i c1
    split
    ·rename_i c2
     refine ⟨fun y hy=>?_,by show 0 + 0≤_;omega⟩
     rw [List.mem_singleton.1 hy]
     exact ⟨no _ _ _,fun e=>absurd e c2⟩
    ·rename_i c2
     obtain ⟨i1,i2⟩:=ih ((c :: r).drop (pieceP (c :: r)).size) (a + (pieceP (c :: r)).size) (hdl c1) hd6
     rw [List.length_drop] at i2
     split
     ·rename_i c3
      have ht:=piece_tkh (c :: r) h6 c1 (by simpa using c2) c3
      refine ⟨fun y hy=>?_,?_⟩
      ·rcases List.mem_cons.1 hy with rfl | hy
       ·exact ⟨⟨Nat.le_trans ht.2.1 (by omega),ht.2.2.1,ht.2.2.2⟩,fun _=>ht.1⟩
       ·exact i1 y hy
      ·rw [List.map_cons,List.sum_cons]
       have:=ht.2.1
       simp only
       omega
     ·exact ⟨i1,by omega⟩
theorem rep_mem {n:Nat} {s:ByteArray} (h:s ∈ repT n [tK]):s=tK:=by
 unfold repT at h
 obtain ⟨l,h1,h2⟩:=List.mem_flatten.1 h
 rw [(List.mem_replicate.1 h1).2] at h2
 simpa using h2
theorem rep2_mem {n:Nat} {s:ByteArray} (h:s ∈ repT n [tK,⟨#[44]⟩]):s=tK∨s=⟨#[44]⟩:=by
 unfold repT at h
 obtain ⟨l,h1,h2⟩:=List.mem_flatten.1 h
 rw [(List.mem_replicate.1 h1).2] at h2
 simpa using h2
theorem com_mem2 {n:Nat} {s:ByteArray} (h:s ∈ comT n):s=tK∨s=⟨#[44]⟩:=by
 unfold comT at h
 split at h
 ·cases h
 ·rcases List.mem_append.1 h with h | h
  ·exact rep2_mem h
  ·exact .inl (by simpa using h)
set_option maxHeartbeats 2000000 in
theorem tok_mem (k:Int) (c:Nat) (t x:ByteArray) (hk:1≤k∧k≤31) (ht:textP (ruleP k).text t=true):∀ s ∈ tokP k c t x,s=tK∨s ∈ lits∨(s=t∧isK t=false∧k ≠ 28)∨(s=x∧(k=26∨k=27∨k=28)):=by
 have hT:=k_text ht
 have:k=1∨k=2∨k=3∨k=4∨k=5∨k=6∨k=7∨k=8∨k=9∨k=10∨k=11∨k=12∨k=13∨k=14∨k=15∨k=16∨k=17∨k=18∨k=19∨k=20∨k=21∨k=22∨k=23∨k=24∨k=25∨k=26∨k=27∨k=28∨k=29∨k=30∨k=31:=by omega
 clear hk ht
 intro s hs
 rcases this with rfl | rfl | rfl | rfl | rfl | rfl | rfl | rfl | rfl | rfl | rfl | rfl | rfl | rfl | rfl | rfl | rfl | rfl | rfl | rfl | rfl | rfl | rfl | rfl | rfl | rfl | rfl | rfl | rfl | rfl | rfl
 all_goals (simp only [ruleP,Int.reduceEq,reduceIte,true_or,or_true,or_self,forall_const,false_implies] at hT)
 all_goals (simp only [tokP,Int.reduceEq,reduceIte] at hs)
 all_goals (try split at hs)
 all_goals (try (rename_i hq;have hT:isK t=false:=Bool.eq_false_iff.2 hq))
 all_goals (try simp only [List.mem_cons,List.mem_append,List.not_mem_nil,or_false,List.mem_singleton] at hs)
 all_goals (repeat' (with_reducible refine Or.elim hs (fun hs=>?_) (fun hs=>?_)))
 all_goals (first | exact .inl hs | exact .inl (rep_mem hs) | exact .inr (.inr (.inl ⟨hs,hT,by decide⟩)) | exact .inr (.inr (.inr ⟨hs,by decide⟩)) | (rcases com_mem2 hs with e | e;exact .inl e;exact .inr (.inl (by rw [e];simp [lits]))) | (rw [hs];exact .inr (.inl (by simp [lits]))))
theorem fill_mem:∀ {ts:List ByteArray} {L:List (List ByteArray)} {s:ByteArray},s ∈ fillT ts L→(s ∈ ts∧isK s=false)∨∃ X ∈ L,s ∈ X
 | [],L,s,h=>by cases h
 | b :: ts,L,s,h=>by
  cases hb:isK b
  ·rw [fill_w hb] at h
   rcases List.mem_cons.1 h with rfl | h
   ·exact .inl ⟨by simp,hb⟩
   ·rcases fill_mem h with ⟨h1,h2⟩ | h
    ·exact .inl ⟨by simp [h1],h2⟩
    ·exact .inr h
  ·cases L with
   | nil=>
    unfold fillT at h
    rw [hb,if_pos rfl] at h
    have h:s ∈ fillT ts []:=by simpa using h
    rcases fill_mem h with ⟨h1,h2⟩ | h
    ·exact .inl ⟨by simp [h1],h2⟩
    ·exact .inr h
   | cons X L=>
    rw [fill_k hb] at h
    rcases List.mem_append.1 h with h | h
    ·exact .inr ⟨X,by simp,h⟩
    ·rcases fill_mem h with ⟨h1,h2⟩ | ⟨Y,hY,h⟩
     ·exact .inl ⟨by simp [h1],h2⟩
     ·exact .inr ⟨Y,by simp [hY],h⟩
theorem tkn_gt (p:Nd × Nat) (hn:NdK p.1) (hf:fitsP p=true):∀ s ∈ tkN flP p,isK s=false→GT s:=by
 obtain ⟨⟨k,a,t,i,b⟩,c⟩:=p
 obtain ⟨hk,hs,hi,hb⟩:=hn
 unfold fitsP at hf
 simp only [Bool.and_eq_true,decide_eq_true_eq] at hf hk hs hi hb
 obtain ⟨⟨⟨h1,h2⟩,h3⟩,h4⟩:=hf
 intro s hm hK
 rcases tok_mem k c t _ hk h3 s hm with e | e | ⟨e,hT,h28⟩ | ⟨e,hx⟩
 ·rw [e,isK_tK] at hK;cases hK
 ·exact (lit_gt e).1
 ·rw [e]
  unfold textP at h3
  split at h3
  ·exact (name_gt h3 hs).1
  ·split at h3
   ·rw [Bool.or_eq_true] at h3
    rcases h3 with h3 | h3
    ·have:isK t=true:=h3
     rw [this] at hT;cases hT
    ·exact (name_gt h3 hs).1
   ·split at h3
    ·rw [Bool.or_eq_true,decide_eq_true_eq] at h3
     exact (lit_gt (op_lits h3)).1
    ·split at h3
     ·rw [Bool.or_eq_true] at h3
      rcases h3 with h3 | h3
      ·have e2:=lst t [45]
       rw [h3] at e2
       rw [of_decide_eq_true e2]
       exact (lit_gt (b:=⟨#[45]⟩) (by simp [lits])).1
      ·have e2:=lst t [126]
       rw [h3] at e2
       rw [of_decide_eq_true e2]
       exact (lit_gt (b:=⟨#[126]⟩) (by simp [lits])).1
     ·split at h3
      ·rename_i c5
       exfalso
       have:k=1∨k=2∨k=3∨k=4∨k=5∨k=6∨k=7∨k=8∨k=9∨k=10∨k=11∨k=12∨k=13∨k=14∨k=15∨k=16∨k=17∨k=18∨k=19∨k=20∨k=21∨k=22∨k=23∨k=24∨k=25∨k=26∨k=27∨k=28∨k=29∨k=30∨k=31:=by omega
       rcases this with rfl | rfl | rfl | rfl | rfl | rfl | rfl | rfl | rfl | rfl | rfl | rfl | rfl | rfl | rfl | rfl | rfl | rfl | rfl | rfl | rfl | rfl | rfl | rfl | rfl | rfl | rfl | rfl | rfl | rfl | rfl
       all_goals first | exact h28 rfl | exact absurd c5 (by decide)
      ·have:isK t=true:=h3
       rw [this] at hT;cases hT
 ·rw [e]
  unfold numsP at h4
  dsimp only
  rcases hx with rfl | rfl | rfl
  ·rw [if_pos rfl] at h4
   have h4:=of_decide_eq_true h4
   exact (int_gt i h4.1 hi.2).1
  ·rw [if_neg (by decide),if_pos rfl] at h4
   have h4:=of_decide_eq_true h4
   exact (flt_gt b hb.1 h4.2).1
  ·exact (str_gt t).1
theorem tkl_gt:∀ f:Fo,(∀ p ∈ rowF f,NdK p.1∧fitsP p=true)→∀ s ∈ tx f,GT s
 | .nil,_,s,h=>by cases h
 | .cons n ks r,hp,s,h=>by
  rw [tx_cons] at h
  rcases List.mem_append.1 h with h | h
  ·rw [tx_one] at h
   rcases fill_mem h with ⟨h1,h2⟩ | ⟨X,hX,h⟩
   ·have:=hp (n,ks.len) (by simp [rowF])
    exact tkn_gt _ this.1 this.2 s h1 h2
   ·exact tkl_gt ks (fun p hq=>hp p (by simp [rowF,hq])) s (List.mem_flatten.2 ⟨X,hX,h⟩)
  ·exact tkl_gt r (fun p hq=>hp p (by simp [rowF,hq])) s h
set_option maxHeartbeats 2000000 in
theorem tok_w (k:Int) (c:Nat) (t x:ByteArray) (hk:1≤k∧k≤31) (h1:(ruleP k).least≤(c:Nat)):wtT (tokP k c t x)≤3 * c + 20 + t.size + x.size:=by
 have:k=1∨k=2∨k=3∨k=4∨k=5∨k=6∨k=7∨k=8∨k=9∨k=10∨k=11∨k=12∨k=13∨k=14∨k=15∨k=16∨k=17∨k=18∨k=19∨k=20∨k=21∨k=22∨k=23∨k=24∨k=25∨k=26∨k=27∨k=28∨k=29∨k=30∨k=31:=by omega
 clear hk
 rcases this with rfl | rfl | rfl | rfl | rfl | rfl | rfl | rfl | rfl | rfl | rfl | rfl | rfl | rfl | rfl | rfl | rfl | rfl | rfl | rfl | rfl | rfl | rfl | rfl | rfl | rfl | rfl | rfl | rfl | rfl | rfl
 all_goals (simp only [tokP,ruleP,Int.reduceEq,reduceIte] at *)
 all_goals (first | ((simp only [wtT_cons,wtT_app,wtT_nil,wtT_rep,size_lit,tK_size,List.length_cons,List.length_nil];(try have:=wtT_com c);(try have:=wtT_com (c - 1));omega);done) | (split <;> (simp only [wtT_cons,wtT_app,wtT_nil,wtT_rep,size_lit,tK_size,List.length_cons,List.length_nil];(try have:=wtT_com c);(try have:=wtT_com (c - 1));omega)))
theorem by_le:∀ (L:List (Nd × Nat)),(∀ p ∈ L,NdK p.1∧fitsP p=true)→byT (tkN flP) L≤3 * (L.map (·.2)).sum + 90 * L.length + 5 * (L.map (fun p=>p.1.text.size)).sum
 | [],_=>by simp [byT]
 | p :: L,h=>by
  have ih:=by_le L (fun q hq=>h q (by simp [hq]))
  obtain ⟨hn,hf⟩:=h p (by simp)
  have hw:wtT (tkN flP p)≤3 * p.2 + 90 + 5 * p.1.text.size:=by
   obtain ⟨⟨k,a,t,i,b⟩,c⟩:=p
   obtain ⟨hk,hs,hi,hb⟩:=hn
   unfold fitsP at hf
   simp only [Bool.and_eq_true,decide_eq_true_eq] at hf hk hs hi hb
   obtain ⟨⟨⟨h1,h2⟩,h3⟩,h4⟩:=hf
   have q1:=num_size true i b hi hb
   have q2:=num_size false i b hi hb
   have q3:=quo_size t
   unfold tkN
   refine Nat.le_trans (tok_w k c t _ hk h1) ?_
   dsimp only
   split
   ·have:=q2.1
    have:(flP b).size≤64:=this
    omega
   ·split
    ·omega
    ·have:=q1.1
     have:(⟨(intT i).toArray⟩:ByteArray).size≤64:=this
     omega
  rw [byT_cons]
  simp only [List.map_cons,List.sum_cons,List.length_cons]
  omega
theorem flat_wt:∀ L:List (List ByteArray),wtT L.flatten=sumW L
 | []=>rfl
 | X :: L=>by
  rw [List.flatten_cons,wtT_app,flat_wt L]
  simp [sumW]
theorem kid_le:∀ f:Fo,∀ p ∈ rowF f,p.2≤(rowF f).length
 | .nil,p,hp=>by cases hp
 | .cons n ks r,p,hp=>by
  simp only [rowF,List.mem_cons,List.mem_append] at hp
  simp only [rowF,List.length_cons,List.length_append]
  rcases hp with rfl | hp | hp
  ·have:=lenR ks
   simp only
   omega
  ·have:=kid_le ks p hp
   omega
  ·have:=kid_le r p hp
   omega
theorem round_plain (l:List UInt8) (hl:l.length≤6000) {fo:Fo} {s':Cs} (h:Ends l (.ok (fo,s'))):∃ u,fo=Fo.one ⟨1,0,⟨#[]⟩,0,0⟩ u∧isT (rowF fo)=true∧(∀ p ∈ rowF fo,NdOk p∧0≤p.1.bits∧p.1.bits < 18446744073709551616)∧(∃ fuel,prF (tkN flP) (rowF fo) fuel [tK] 0 []=some (textF u))∧(textF u).length≤1000000∧((∃ fo2 s2,Ends (textF u) (.ok (fo2,s2))∧bareF fo2=bareF fo)∨∃ f,Ends (textF u) (.error f)∧(f.1=71∨f.1=2)):=by
 obtain ⟨n,h⟩:=h
 have hsl:=srcY_len l
 have hrow:=row_le h
 rw [src_T l (by omega)] at h hsl hrow
 obtain ⟨hT,hS⟩:=T_has l.length l 0 (Nat.le_refl _) hl
 obtain ⟨⟨u,rfl,hu⟩,_⟩:=wt_P n (.pg .nil) ⟨T l 0,0⟩ (fun y hy c=>(hT y hy).2 c) Wt.unil fo s' h
 obtain ⟨⟨_,hall,_⟩,_⟩:=nodes_ok n (.pg .nil) ⟨T l 0,0⟩ (fun y hy=>(hT y hy).1) trivial _ s' h
 have htw:=texts_le n (.pg .nil) ⟨T l 0,0⟩ _ s' h
 have er:rowF (Fo.one ⟨1,0,⟨#[]⟩,0,0⟩ u)=(⟨1,0,⟨#[]⟩,0,0⟩,u.len) :: rowF u:=by simp [Fo.one,rowF]
 rw [er,List.length_cons] at hrow
 simp only at hrow hsl
 have hN:(rowF u).length≤6010:=by omega
 obtain ⟨hIs,hpr⟩:=print_text hu hall hN
 have hsk:ShK u 1 u.len 0:=sh_all (wt_sh hu (by omega)) fun j _ _=>rfl
 have hnf:∀ p ∈ rowF u,NdK p.1∧fitsP p=true:=fun p hp=>⟨alln_row hall p hp,sh_fits hsk p hp⟩
 have hts:tw u≤6000:=by
  have e1:tw (Fo.one ⟨1,0,⟨#[]⟩,0,0⟩ u)=tw u:=by rw [tw_one];show 0 + tw u=tw u;omega
  have e2:baseW (.pg .nil)=0:=rfl
  have e3:sw ⟨T l 0,0⟩=((T l 0).map (fun y=>y.t.text.size)).sum:=rfl
  rw [e1,e2,e3] at htw
  omega
 have hb:=by_le (rowF u) hnf
 have hks:=kid_sum u
 have hts':((rowF u).map (fun p=>p.1.text.size)).sum≤6000:=hts
 have hlen:(textF u).length≤1000000:=by
  have h1:=tkl_wt (tkN flP) u
  have h2:=joinB_len (toksF u) []
  have h3:wtT (toksF u)=sumW (tkl (tkN flP) u):=flat_wt _
  rw [List.length_nil] at h2
  unfold textF
  split
  ·simp
  ·rw [List.length_append]
   simp only [List.length_cons,List.length_nil]
   omega
 refine ⟨u,rfl,hIs,?_,hpr,hlen,?_⟩
 ·rw [er]
  intro p hp
  rcases List.mem_cons.1 hp with rfl | hp
  ·have:=lenR u
   exact ⟨⟨by show (1:Int)≤1∧(1:Int)≤31;decide,Nat.zero_le _,by show u.len≤1000000;omega,by show (-9223372036854775808:Int)≤0∧(0:Int)≤9223372036854775807;decide⟩,by show (0:Int)≤0;decide,by show (0:Int) < 18446744073709551616;decide⟩
  ·obtain ⟨hk,hs,hi,hbb⟩:=alln_row hall p hp
   have:=kid_le u p hp
   exact ⟨⟨hk,by omega,by omega,hi⟩,hbb.1,hbb.2⟩
 ·by_cases hlg:65536 < (textF u).length
  ·refine .inr ⟨(2,0),⟨1,?_⟩,.inr rfl⟩
   unfold srcY
   rw [if_pos hlg]
   rfl
  ·obtain ⟨ys,e,h1,h2,p,he⟩:=T_text (toksF u) (tkl_gt u hnf)
   have hsrc:srcY (textF u)=ys ++ [e]:=by rw [src_T _ (by omega)];exact h1
   have hg:=pg_rest u .nil ys e 0 (wt_mot hu hall) h2 (by rw [he]) (by rw [he];rfl)
   rcases hg with ⟨a,s2,⟨m,hm⟩,hb2⟩ | ⟨p,m,hm⟩
   ·exact .inl ⟨a,s2,⟨m,by rw [hsrc];exact hm m (Nat.le_refl _)⟩,hb2⟩
   ·exact .inr ⟨(71,p),⟨m,by rw [hsrc];exact hm m (Nat.le_refl _)⟩,.inl rfl⟩
def bp (p:Nd × Nat):Nd × Nat:=(bareN p.1,p.2)
theorem row_bare:∀ f:Fo,rowF (bareF f)=(rowF f).map bp
 | .nil=>rfl
 | .cons n ks r=>by
  show (bareN n,(bareF ks).len) :: (rowF (bareF ks) ++ rowF (bareF r))=_
  rw [row_bare ks,row_bare r,bare_len]
  simp [rowF,bp]
theorem kids_bp (L:List (Nd × Nat)) (a:Nat):kidsAt (L.map bp) a=kidsAt L a:=by
 unfold kidsAt
 rw [List.getElem?_map]
 cases L[a]? <;> rfl
theorem rise_bp (L:List (Nd × Nat)):∀ Q,riseQ (L.map bp) Q=riseQ L Q
 | []=>rfl
 | p :: q=>by
  unfold riseQ
  rw [kids_bp,rise_bp L q]
theorem fits_bp (L:List (Nd × Nat)) (a:Nat):fitsAt (L.map bp) a=fitsAt L a:=by
 unfold fitsAt
 rw [List.getElem?_map]
 cases L[a]? <;> rfl
theorem may_bp (L:List (Nd × Nat)) (a m n:Nat):mayAt (L.map bp) a m n=mayAt L a m n:=by
 unfold mayAt
 rw [List.getElem?_map,List.getElem?_map]
 cases L[a]? <;> cases L[n]? <;> rfl
theorem go_bp (L:List (Nd × Nat)):∀ r n Q,isGo (L.map bp) r n Q=isGo L r n Q
 | 0,n,Q=>by unfold isGo;rw [rise_bp]
 | r + 1,n,Q=>by
  unfold isGo
  rw [rise_bp]
  cases riseQ L Q with
  | nil=>rfl
  | cons p q=>
   simp only
   rw [fits_bp,may_bp,go_bp L r]
theorem is_bp (L:List (Nd × Nat)):isT (L.map bp)=isT L:=by
 cases L with
 | nil=>rfl
 | cons p L=>
  have h:=go_bp (p :: L) L.length 1 [(0,0)]
  rw [List.map_cons] at h ⊢
  unfold isT
  simp only [List.length_map]
  rw [h]
  rfl
theorem pr_bp (L:List (Nd × Nat)):∀ (f:Nat) (ls:List ByteArray) (i:Nat) (out:List UInt8),prF (tkN flP) (L.map bp) f ls i out=prF (tkN flP) L f ls i out
 | 0,ls,i,out=>rfl
 | f + 1,[],i,out=>rfl
 | f + 1,s :: ls,i,out=>by
  unfold prF
  rw [List.getElem?_map]
  split
  ·cases L[i]? with
   | none=>rfl
   | some p=>
    simp only [Option.map_some]
    have e:tkN flP (bp p)=tkN flP p:=rfl
    rw [e,pr_bp L f]
  ·rw [pr_bp L f]
theorem nd_bp (p q:Nd × Nat) (h:bp p=bp q):ndB p q=true:=by
 have h1:=congrArg (fun x:Nd × Nat=>x.2) h
 have h2:=congrArg (fun x:Nd × Nat=>x.1) h
 have h1:p.2=q.2:=h1
 have h2:bareN p.1=bareN q.1:=h2
 obtain ⟨a1,a2,a3,a4⟩:=bareN_kind h2
 unfold ndB
 rw [h1,a1,a2,a3,a4]
 simp
theorem bare_bp:∀ L M:List (Nd × Nat),L.map bp=M.map bp→bareP L M=true
 | [],[],_=>rfl
 | [],q :: M,h=>by cases h
 | p :: L,[],h=>by cases h
 | p :: L,q :: M,h=>by
  rw [List.map_cons,List.map_cons] at h
  injection h with h1 h2
  unfold bareP
  rw [nd_bp p q h1,bare_bp L M h2]
  rfl
theorem like_bare {f g:Fo} (h:bareF g=bareF f) (h1:isT (rowF f)=true) (h2:∀ p ∈ rowF f,NdOk p∧0≤p.1.bits∧p.1.bits < 18446744073709551616) {fuel:Nat} {res:List UInt8} (h3:prF (tkN flP) (rowF f) fuel [tK] 0 []=some res):isT (rowF g)=true∧(∀ p ∈ rowF g,NdOk p∧0≤p.1.bits∧p.1.bits < 18446744073709551616)∧prF (tkN flP) (rowF g) fuel [tK] 0 []=some res∧bareP (rowF f) (rowF g)=true∧(rowF g).length=(rowF f).length:=by
 have hm:(rowF g).map bp=(rowF f).map bp:=by rw [← row_bare,← row_bare,h]
 refine ⟨?_,?_,?_,bare_bp _ _ hm.symm,?_⟩
 ·rw [← is_bp,hm,is_bp];exact h1
 ·intro p hp
  have:bp p ∈ (rowF f).map bp:=by rw [← hm];exact List.mem_map.2 ⟨p,hp,rfl⟩
  obtain ⟨q,hq,e⟩:=List.mem_map.1 this
  have e1:=congrArg (fun x:Nd × Nat=>x.2) e
  have e2:=congrArg (fun x:Nd × Nat=>x.1) e
  have e1:q.2=p.2:=e1
  have e2:bareN q.1=bareN p.1:=e2
  obtain ⟨a1,a2,a3,a4⟩:=bareN_kind e2
  obtain ⟨⟨b1,b2,b3,b4⟩,b5,b6⟩:=h2 q hq
  rw [a1] at b1
  rw [a2] at b2
  rw [e1] at b3
  rw [a3] at b4
  rw [a4] at b5 b6
  exact ⟨⟨b1,b2,b3,b4⟩,b5,b6⟩
 ·rw [← pr_bp,hm,pr_bp];exact h3
 ·have:=congrArg List.length hm
  simpa using this
end Go.Proofs.YtkjaoandifednaaGreatDoor.W.Tr
