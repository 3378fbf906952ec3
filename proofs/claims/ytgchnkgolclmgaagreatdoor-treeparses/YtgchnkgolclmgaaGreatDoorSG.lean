import Derived.Test.YtgchnkgolclmgaaGreatDoorJG
import Derived.Test.YtgchnkgolclmgaaGreatDoorSE
open List renaming mem_cons_self → aY, mem_singleton → gL
open Array renaming getElem?_eq_some_iff → bY
open Nat renaming le_refl → ay, lt_of_lt_of_le → gy
open Go.World renaming alloc → dI, alloc_heap_new → dQ, block_lt_of_cell? → eU
open Go.RowKit.Below renaming refl → bO, heap_alloc → gI, heap_setCell → dR
open Go.AllReadyH renaming cons → aH, nil → aL
open Go.Proofs.Tryz
open List renaming getElem_toArray → aW, getElem_cons_zero → aV, getElem_cons_succ → aU, setIfInBounds_toArray → aT, set_cons_zero → aS, set_cons_succ → aR
set_option maxRecDepth 1000000
set_option maxHeartbeats 8000000
namespace Go.Proofs.YtgchnkgolclmgaaGreatDoor.W.Tr
open Go.ChangeShapes Go.WideShapes Go.RowKit Go.Shelf
set_option linter.unusedVariables false
set_option linter.unusedSimpArgs false
theorem K8{s:Cs}{y:Yd}(hs:look s=.ok y)(g1:bR fU (.ok s)=false)(g2:bR jV (.ok s)=false)(g3:bR dU (.ok s)=false)(g4:bR dZ (.ok s)=false)(g5:bR jH (.ok s)=false)(g6:bR fD (.ok s)=false)(g7:bR gD (.ok s)=false)(g8:bR oF (.ok s)=false):Jm s y=if y.t.kind=1/\colon s=true then .lb else .pl:=by
 have f:∀w,bR w (.ok s)=false->aG y.t≠w:=λw g e=>by rw[(ak hs).2 e] at g;cases g
 unfold Jm
 rw[if_neg (f _ g1),if_neg (f _ g2),if_neg (f _ g3),if_neg (f _ g4),if_neg (f _ g5),if_neg (f _ g6),if_neg (f _ g7),if_neg (f _ g8)]
theorem Ms{s:Cs}{y yy:Yd}{r:List Yd}(hr:s.r=y::yy::r)(hk:BJ yy.t):colon s=true↔(yy.c=0/\yy.t.kind=3/\yy.t.text=⟨#[58]⟩):=by
 unfold colon
 rw[hr]
 simp only[Bool.and_eq_true,decide_eq_true_eq]
 unfold aG
 constructor
 ·rintro⟨h1,h2⟩
  by_cases h3:yy.t.kind=3
  ·rw[if_pos (.inr h3)] at h2
   exact⟨h1,h3,h2⟩
  ·by_cases h4:yy.t.kind=2
   ·rw[if_pos (.inl h4)] at h2
    exact absurd (.inr (.inr (.inr h2))) (hk.2.2.2.1 h4)
   ·rw[if_neg (by omega)] at h2
    exact absurd h2 (by decide)
 ·rintro⟨h1,h2,h3⟩
  rw[if_pos (.inr h2)]
  exact⟨h1,h3⟩
theorem Ll{s:Cs}{y yy:Yd}{r:List Yd}(hs:look s=.ok y)(hr:s.r=y::yy::r)(h1:y.t.kind=1)(hc:colon s=true):bR pF (bP (.ok s))=true:=by
 have hk:ow 1 (.ok s)=true:=by
  show decide ((qA s).t.kind=1)=true
  rw[(dS hs).1]
  simp[h1]
 have hcc:yy.c=0/\aG yy.t=pF:=by
  unfold colon at hc
  rw[hr] at hc
  simpa using hc
 unfold bP
 rw[hk,if_pos rfl,gJ hs]
 have hl:look (behind y s)=.ok yy:=by
  unfold look behind
  rw[hr]
  simp only[List.tail_cons]
  rw[if_pos hcc.1,if_neg]
  rintro⟨q,_⟩
  unfold dx at q
  rw[hcc.2] at q
  exact absurd q (by decide)
 rw[aj hl]
 exact(ak hl).2 hcc.2
theorem Rx.up2{W0 W w':World}{rb b:Nat}{l:ByteArray}{st st':Se}{y y':Yd}{L:List (Nat × Fo)}{f:Fo}(h:Rx W0 W rb l st y L)(h1:Rx W w' rb l st' y' [(b,f)])(hm:Tr.mu st'<=Tr.mu st):Rx W0 w' rb l st' y' [(b,f)]:=by
 have h2:=h.next h1.rd hm h1.upd
 refine⟨h2.rd,h2.sz,h2.mb,h2.upd,h2.lt,?_⟩
 intro p hp
 rw[gL.1 hp]
 exact(h1.ts _ (gL.2 rfl)).mono (λk e=>Nat.le_trans h.upd.size e)
theorem VY{s:Cs}{y:Yd}{gT:Se}{r? : Option Fo}{m:Nd}{ks:Fo}(hs:look s=.ok y)(hc:bR pF (bP (.ok s))=true)(h3:aO (if bR dZ (bJ (bP (.ok s)))=true then .fr else .wh) (bJ (bP (.ok s))) gT r?)(hq:∀x,gT=.ok x->r?.map (lbF y (bR dZ (bJ (bP (.ok s)))))=some (Fo.one m ks)):aO .lb (.ok s) gT (some (Fo.one m ks)):=by
 have hw:aN pF (bP (.ok s))=bJ (bP (.ok s)):=by unfold aN;rw[hc,if_pos rfl]
 have:=VZ hs rfl hw.symm h3
 cases q:gT with
 | error e=>rw[q] at this;exact this.other
 | ok x=>
  rw[hq x q,q] at this
  exact this
theorem LY{st1:Se}{m:Nd}{ks e:Fo}{s1:Cs}{y1:Yd}(hs1:look s1=.ok y1)(hw:bR jf (.ok s1)=true)(h2:aO .ex (bJ (.ok s1)) st1 (some e)):aO (.D6 m ks) (.ok s1) (aN bV st1) (some (Fo.one m (ks.app e))):=Tq hs1 hw h2 rfl (λv q=>by cases q;rfl)
theorem Rx.TJ{W0 W:World}{rb:Nat}{l:ByteArray}{st:Se}{y:Yd}{L:List (Nat × Fo)}(h:Rx W0 W rb l st y L):Rx W0 (W.alloc (.cells #[.int .i64 0,.int .i64 0,.int .i64 0,.string ⟨#[]⟩,.int .i64 0,.int .u64 0,.slice none 0 0] 46)) rb l st y [(W.heap.size,Fo.one ⟨0,0,⟨#[]⟩,0,0⟩ .nil)]:=
 (h.om (nd:=⟨0,0,⟨#[]⟩,0,0⟩) ((bO _ _).alloc (ay _) _) (ay _) (dQ _ _)).sub (λp hp=>by rw[gL.1 hp];exact aY ..)
theorem OT{w:World}{u:Value}{i1 i2 gm:Nat}(h:w.ownsRow gm 40 1 u 2 [ptr i1,ptr i2]):∃g cap,u=.slice (some ⟨g,0,none⟩) 2 cap/\w.cell? ⟨g,0,none⟩=some (ptr i1)/\w.cell? ⟨g,1,none⟩=some (ptr i2):=by
 obtain⟨_,h2⟩:=h
 rcases h2 with⟨_,hn⟩|⟨g,cap,cur,hv,_,hg,hc,_,hz,ht⟩
 ·omega
 ·have e:∀j,j<2->cur[j]? = [ptr i1,ptr i2][j]?:=by
   intro j hj
   rw[<- ht,List.getElem?_take_of_lt (by omega)]
   simp
  exact⟨g,cap,hv,(aA hg 0).trans (e 0 (by omega)),(aA hg 1).trans (e 1 (by omega))⟩
def F5(w:World)(b1 gb gc i1 i2:Nat)(a:Int):Prop:=w.cell? ⟨b1,1,none⟩=some (.int .i64 a)/\w.cell? ⟨b1,6,none⟩=some (.slice (some ⟨gb,0,none⟩) 2 gc)/\w.cell? ⟨gb,0,none⟩=some (ptr i1)/\w.cell? ⟨gb,1,none⟩=some (ptr i2)
theorem F5.below{w w':World}{b1 gb gc i1 i2:Nat}{a:Int}(h:F5 w b1 gb gc i1 i2 a)(hB:Below w.heap.size w w'):F5 w' b1 gb gc i1 i2 a:=
 ⟨(hB.cell (eU w _ h.1)).trans h.1,(hB.cell (eU w _ h.2.1)).trans h.2.1,(hB.cell (eU w _ h.2.2.1)).trans h.2.2.1,(hB.cell (eU w _ h.2.2.2)).trans h.2.2.2⟩
theorem Rt.store{W0 W:World}{rb b1 b5:Nat}{l:ByteArray}{st:Se}{y:Yd}{L:List (Nat × Fo)}{M:List (Nat × Yd)}{nd:Nd}{ks f5:Fo}(h:Rt W0 W rb l st y L M)(m1:(b1,Fo.one nd ks) ∈ L)(m5:(b5,f5) ∈ L)(hl:ks.len=2):∃gb gc i1 i2,F5 W b1 gb gc i1 i2 nd.a/\∀ (k a:Int) (t:ByteArray),Calls prog 9 #[.int .i64 k,.int .i64 a,.string t,.slice (some ⟨W.heap.size,0,none⟩) 3 3] (W.alloc (.cells #[ptr i1,ptr i2,ptr b5] 40)) λx w'=>∃b,x=.returned (ptr b)/\F5 w' b1 gb gc i1 i2 nd.a/\Rt W0 w' rb l st y ((b,Fo.one ⟨k,a,t,0,0⟩ (ks.app f5))::L) M:=by
 obtain⟨u,bk,hb⟩:=Bt.of (h.x.ts _ m1)
 have hn:=(cZ.len hb.kids).trans hl
 obtain⟨i1,i2,rfl⟩:∃i1 i2,bk=[i1,i2]:=by
  match bk,hn with
  | [a,b],_=>exact⟨a,b,rfl⟩
 obtain⟨g,cap,rfl,q0,q1⟩:=OT hb.row
 have hk:F5 W b1 g cap i1 i2 nd.a:=⟨aA hb.top 1,aA hb.top 6,q0,q1⟩
 refine⟨g,cap,i1,i2,hk,λk a t=>?_⟩
 refine(oh k a t _ 3 3 _).mono ?_
 rintro x w' ⟨hx,rfl⟩
 refine⟨_,hx,(hk.below ((bO _ W).alloc (ay _) _)).below ((bO _ _).alloc (ay _) _),⟨h.x.node (bs:=[i1,i2,b5]) ((hb.kids.mono (λk e=>e.1)).app (h.x.ts _ m5)) (by have:=one_le;simp;omega) rfl ((bO _ _).alloc (ay _) _) (ay _) (dQ _ _),((h.alloc _).alloc _).tk⟩⟩
def TA(n:Nat):Code->Bool
 | .region id _ _=>id==n
 | _=>false
def nR(n:Nat):Code->Option Code
 | .seq a b=>if TA n a then some (.seq a b) else (nR n a).orElse (λ_=>nR n b)
 | .cond _ a b=>(nR n a).orElse (λ_=>nR n b)
 | .block _ a=>nR n a
 | .loop a=>nR n a
 | .scope a=>nR n a
 | _=>none
def Vv:Code->Code
 | .seq a _=>a
 | c=>c
def Ur:Code->Code
 | .seq _ b=>b
 | c=>c
theorem GD{W w:World}{K:Act->World->Prop}{rb n:Nat}{l:ByteArray}{s:Cs}{y:Yd}{u1 u3 u4 u5 u6 u7 u8 u9 u10 u11 u12 u13 u14 u15 u16 u17 u18 u19 u20 u21 u22 u23 u24 u25 u26 u27 u28 u29 u30 u31 u32 u33 u34 u35 u36 u37 u38 u39 u40 u41 u42 u43 u44 u45 u46 u47 u48 u49 u50 u51 u52 u53 u54 u55 u56 u57 u58 u59 u60 u61 u62 u63 u64 u65 u66 u67 u68 u69 u70 u71 u72 u73 u74 u75 u76 u77 u78 u79 u80 u81 u82 u83 u84 u85 u86 u87 u88 u89 u90 u91 u92 u93 u94 u95 u96 u97 u98 u99 Zr Zq Zp Zo Zn u105 Zm Zl Zk Zj Zh Zg Zf Ze Zd Zc Zb Za Z9 u119 Z8 Z7 Z6 Z5 u124 Z4 ZY u127 ZX ZW ZV u131 ZU ZT ZR ZQ ZP ZO u138 u139 ZN ZM ZL ZK ZJ ZI ZH ZG ZF ZE ZC ZB u152 Yz u154 Yy Yx Yw Yv Yu Yt Yr u162 Yq u164 Yp Yo Yn Ym Yl Yk Yj Yi Yh Yg Yf Ye Yc Yb Ya Y9 Y8 Y7 Y6 YZ YX YW YV YU YT YS YR YQ u193 u194 YP u196 YO u198 YN YM u201 YL YK YJ YI u206 YH u208 YG u210 YF YE YD YC YB YA Xz Xy Xx Xw Xv Xu Xt Xr Xq Xp Xo Xn Xm Xl Xk Xj Xi:Value}(ce:nO 71 .ex n)(hx:Rt W w rb l (.ok s) y [] [])(hy:look s=.ok y)(hn:mu (.ok s)<=n)(hpl:∀st1 o,aO .pl (.ok s) st1 o->aO .st (.ok s) st1 o)(hK:∀a w,Code.wp prog (Ur ((Tryz.f43.body.bind (nR 41)).getD .skip)) (bodyPost prog Tryz.f43 (qH W rb l .st (.ok s))) a w->K a w):Code.wp prog (Vv ((Tryz.f43.body.bind (nR 41)).getD .skip)) (Exit.then K (bodyPost prog Tryz.f43 (qH W rb l .st (.ok s)))) ⟨(ptr rb::u1::Value.pointer none::u3::u4::u5::u6::u7::u8::u9::u10::u11::u12::u13::u14::u15::u16::u17::u18::u19::u20::u21::u22::u23::u24::u25::u26::u27::u28::u29::u30::u31::u32::u33::u34::u35::u36::u37::u38::u39::u40::u41::u42::u43::u44::u45::u46::u47::u48::u49::u50::u51::u52::u53::u54::u55::u56::u57::u58::u59::u60::u61::u62::u63::u64::u65::u66::u67::u68::u69::u70::u71::u72::u73::u74::u75::u76::u77::u78::u79::u80::u81::u82::u83::u84::u85::u86::u87::u88::u89::u90::u91::u92::u93::u94::u95::u96::u97::u98::u99::Zr::Zq::Zp::Zo::Zn::u105::Zm::Zl::Zk::Zj::Zh::Zg::Zf::Ze::Zd::Zc::Zb::Za::Z9::u119::Z8::Z7::Z6::Z5::u124::Z4::ZY::u127::ZX::ZW::ZV::u131::ZU::ZT::ZR::ZQ::ZP::ZO::u138::u139::ZN::ZM::ZL::ZK::ZJ::ZI::ZH::ZG::ZF::ZE::ZC::ZB::u152::Yz::u154::Yy::Yx::Yw::Yv::Yu::Yt::Yr::u162::Yq::u164::Yp::Yo::Yn::Ym::Yl::Yk::Yj::Yi::Yh::Yg::Yf::Ye::Yc::Yb::Ya::Y9::Y8::Y7::Y6::YZ::YX::YW::YV::YU::YT::YS::YR::YQ::u193::u194::YP::u196::YO::u198::YN::YM::u201::YL::YK::YJ::YI::u206::YH::u208::YG::u210::YF::YE::YD::YC::YB::YA::Xz::Xy::Xx::Xw::Xv::Xu::Xt::Xr::Xq::Xp::Xo::Xn::Xm::Xl::Xk::Xj::Xi::[]).toArray,[]⟩ w:=by
 have XH:=hid hpl
 have HY:=hid hy
 have HN:=hid hn
 clear hpl hy hn
 conv=>arg 2;whnf
 conv at hK=>enter [a,w,1,2];whnf
 go_upto_region 42 with(go_at_call 71;(with_reducible refine(Rt.part hx ce HN.out).mono ?_);rintro x w2 ⟨b1,m1,k1,st1,y1,rfl,hx2,ho1,hc1,hm1⟩;(replace hx:=hx2);clear hx2)
 have xX:=hid hx.wN
 cases ge:bR jf st1
 ·have HO:=hid ho1
  have xY:=hid hm1
  clear ho1 hm1
  go_upto_region 54 with(first|(go_at_call 11;(with_reducible refine(Rt.nG hx _ (by decide) ge).mono ?_);rintro x w2 ⟨rfl,hw⟩;(have hw':=hw.symm);subst hw';clear hw)|(go_at_call 14;(with_reducible refine(Rt.want hx _ (by decide)).mono ?_);rintro x w2 ⟨rfl,y4,hx2,q4⟩;(replace hx:=hx2);clear hx2))
  obtain⟨e0,e1,e3,ez⟩:=hx.x.fV (b:=b1) (nd:=m1) (ks:=k1) (by simp)
  go_wp2_with (go_at_call 9;(with_reducible refine(Rt.Od (b1:=b1) (f1:=Fo.one m1 k1) hx _ _ _ (by simp)).mono ?_);rintro x w2 ⟨b0,rfl,hx2⟩;(replace hx:=hx2);clear hx2)
  go_ret
  refine hx.res (aY ..) (XH.out _ _ ?_) (dD (by decide) (by decide))
  have ho:=HO.out
  cases st1 with
  | error e=>exact Rl HY.out ho
  | ok s1=>exact Ca HY.out ho (.inl ge)
 ·cases st1 with
  | error e=>cases ge
  | ok s1=>
   have HO:=hid ho1
   have UJ:=hid hc1
   have xY:=hid hm1
   clear ho1 hc1 hm1
   go_upto_region 43 with(go_at_call 11;(with_reducible refine(Rt.lX hx _ (by decide) ge).mono ?_);rintro x w2 ⟨rfl,hw⟩;(have hw':=hw.symm);subst hw';clear hw)
   obtain⟨e0,e1,e3,ez⟩:=hx.x.fV (b:=b1) (nd:=m1) (ks:=k1) (by simp)
   by_cases k25:m1.kind=25
   ·have Te:(m1.kind != 25)=false:=by simp[k25]
    have BF:=hid k25
    clear k25
    go_upto_region 45 with fail
    clear e0 e1 e3 ez Te
    go_upto_region 46 with(go_at_call 12;(with_reducible refine(Rt.stepT hx jf (by decide) ge).mono ?_);rintro x w2 ⟨rfl,y3,hx2,q3⟩;(replace hx:=hx2);clear hx2)
    go_upto_region 47 with(go_at_call 71;(with_reducible refine(Rt.part hx ce (by have:=HN.out;have:=xY.out;omega)).mono ?_);rintro x w2 ⟨b5,m5,k5,mM,y5,rfl,hx2,vP,Vm,QU⟩;(replace hx:=hx2);clear hx2)
    go_upto_region 48 with(go_at_call 14;(with_reducible refine(Rt.want hx _ (by decide)).mono ?_);rintro x w2 ⟨rfl,y6,hx2,q6⟩;(replace hx:=hx2);clear hx2)
    obtain⟨e0,e1,e3,ez⟩:=hx.x.fV (b:=b1) (nd:=m1) (ks:=k1) (by simp)
    have Te:(m1.kind==25)=true:=by simp[BF.out]
    go_upto_region 49 with fail
    clear e0 e1 e3 ez Te
    replace hx:=hx.drew
    have hS:_/\_:=⟨(hx.x.fV (b:=b1) (nd:=m1) (ks:=k1) (by simp)).2.1,(hx.x.fV (b:=b1) (nd:=m1) (ks:=k1) (by simp)).2.2.1⟩
    refine wp_region_held_drew (S:=λw'=>w'.cell? ⟨b1,1,none⟩=some (.int .i64 m1.a)/\w'.cell? ⟨b1,3,none⟩=some (.string m1.text)) (by kernel_rfl) hS ?_
    clear hS
    intro hS
    iterate 11 ((refine It.nH 0 ?_ rfl (by kernel_rfl) (λ_ _ _ h=>h) (Or.inl ⟨by rfl,?_⟩) hS ?_);rotate_left;(focus (intro w' hSw;(obtain⟨s1,s3⟩:=hSw);go_simp;(try with_reducible rfl)));(try simp only[Act.put,aW,aV,aU,aT,aS,aR]))
    refine wpAnyH_ready (rs:=[11]) (by kernel_rfl) (by simp) ?_
    refine aH rfl (λK hK=>?_) aL
    go_simp
    refine hK.out _ _ ⟨((hx.alloc (.cells #[ptr b5] 40)).x.fV (b:=b1) (nd:=m1) (ks:=k1) (by simp)).2.1,((hx.alloc (.cells #[ptr b5] 40)).x.fV (b:=b1) (nd:=m1) (ks:=k1) (by simp)).2.2.1⟩ (λhS2=>?_)
    clear hK K hS
    (have hS:=hS2);clear hS2
    (try simp only[Act.put,aW,aV,aU,aT,aS,aR])
    refine wpAnyH_ready (rs:=[12]) (by kernel_rfl) (by simp) ?_
    refine aH rfl (λK hK=>?_) aL
    go_simp
    refine(Rt.Od (b1:=b5) (f1:=Fo.one m5 k5) hx _ _ _ (by simp)).mono ?_
    rintro x w2 ⟨b0,rfl,hx2⟩
    replace hx:=hx2
    clear hx2
    refine hK.out _ _ ⟨(hx.x.fV (b:=b1) (nd:=m1) (ks:=k1) (by simp)).2.1,(hx.x.fV (b:=b1) (nd:=m1) (ks:=k1) (by simp)).2.2.1⟩ (λhS2=>?_)
    clear hK K hS
    (have hS:=hS2);clear hS2
    (try simp only[Act.put,aW,aV,aU,aT,aS,aR])
    refine wpAnyH_ready (rs:=[13]) (by kernel_rfl) (by simp) ?_
    refine aH rfl (λK hK=>?_) aL
    go_simp
    refine hK.out _ _ ⟨(hx.x.fV (b:=b1) (nd:=m1) (ks:=k1) (by simp)).2.1,(hx.x.fV (b:=b1) (nd:=m1) (ks:=k1) (by simp)).2.2.1⟩ (λhS2=>?_)
    clear hK K hS
    (have hS:=hS2);clear hS2
    (try simp only[Act.put,aW,aV,aU,aT,aS,aR])
    refine wpAnyH_done (by kernel_rfl) ?_ _
    go_wp2_with fail
    go_ret
    have hp:=C9 HY.out HO.out ge (.inl BF.out) (LY (xX.out s1 rfl) ge vP)
    rw[BF.out,if_pos rfl,(UJ.out.1 BF.out).1,(UJ.out.1 BF.out).2.1,(UJ.out.1 BF.out).2.2] at hp
    refine hx.res (aY ..) (XH.out _ _ ?_) (dD (by decide) (by decide))
    exact hp
   ·have Te:(m1.kind != 25)=true:=by simp[k25]
    by_cases k24:m1.kind=24
    ·have b24:(m1.kind != 24)=false:=by simp[k24]
     have Ng:=hid k24
     have BF:=hid k25
     clear k24 k25
     go_upto_region 45 with fail
     clear e0 e1 e3 ez Te b24
     go_upto_region 46 with(go_at_call 12;(with_reducible refine(Rt.stepT hx jf (by decide) ge).mono ?_);rintro x w2 ⟨rfl,y3,hx2,q3⟩;(replace hx:=hx2);clear hx2)
     go_upto_region 47 with(go_at_call 71;(with_reducible refine(Rt.part hx ce (by have:=HN.out;have:=xY.out;omega)).mono ?_);rintro x w2 ⟨b5,m5,k5,mM,y5,rfl,hx2,vP,Vm,QU⟩;(replace hx:=hx2);clear hx2)
     go_upto_region 48 with(go_at_call 14;(with_reducible refine(Rt.want hx _ (by decide)).mono ?_);rintro x w2 ⟨rfl,y6,hx2,q6⟩;(replace hx:=hx2);clear hx2)
     obtain⟨e0,e1,e3,ez⟩:=hx.x.fV (b:=b1) (nd:=m1) (ks:=k1) (by simp)
     have Te:(m1.kind==25)=false:=by simp[BF.out]
     go_upto_region 50 with fail
     clear e0 e1 e3 ez Te
     have hp:=C9 HY.out HO.out ge (.inr Ng.out) (LY (xX.out s1 rfl) ge vP)
     rw[if_neg BF.out,(UJ.out.2 Ng.out).1,(UJ.out.2 Ng.out).2.1,(UJ.out.2 Ng.out).2.2.1] at hp
     have HP:=hid hp
     clear hp vP
     obtain⟨zi,Va⟩:∃zi,aN bV mM=zi:=⟨_,rfl⟩
     rw[Va] at hx q6 HP
     clear Va
     cases zi with
     | error e=>
      have HX:=hid hx
      go_wp2_with (go_at_call 10;(with_reducible refine(ji hx.x).mono ?_);rintro x w2 ⟨rfl,hw⟩;(have hw':=hw.symm);subst hw';clear hw)
      go_ret
      exact⟨_,⟨0,0,⟨#[]⟩,0,0⟩,.nil,.error e,_,rfl,HX.out.x.TJ,XH.out _ _ HP.out.other,dD (by decide) (by decide)⟩
     | ok s6=>
      go_upto_region 52 with(go_at_call 10;(with_reducible refine(dH hx.x).mono ?_);rintro x w2 ⟨rfl,hw⟩;(have hw':=hw.symm);subst hw';clear hw)
      replace hx:=hx.drew
      obtain⟨gb,gc,i1,i2,hS0,Ox⟩:=hx.store (b1:=b1) (nd:=m1) (ks:=k1) (b5:=b5) (f5:=Fo.one m5 k5) (by simp) (by simp) (UJ.out.2 Ng.out).2.2.2
      have HN3:=hid Ox
      clear Ox
      refine wp_region_held_drew (S:=λw'=>F5 w' b1 gb gc i1 i2 m1.a) (by kernel_rfl) hS0 ?_
      clear hS0
      intro hS
      iterate 18 ((refine It.nH 0 ?_ rfl (by kernel_rfl) (λ_ _ _ h=>h) (Or.inl ⟨by rfl,?_⟩) hS ?_);rotate_left;(focus (intro w' hSw;(obtain⟨s1,s6,s7,s8⟩:=hSw);go_simp;(try with_reducible rfl)));(try simp only[Act.put,aW,aV,aU,aT,aS,aR]))
      have hSA:=hS.below ((bO _ _).alloc (ay _) (.cells #[ptr i1,ptr i2,ptr b5] 40))
      refine wpAnyH_ready (rs:=[18]) (by kernel_rfl) (by simp) ?_
      refine aH rfl (λK hK=>?_) aL
      go_simp
      refine hK.out _ _ hSA (λhS2=>?_)
      clear hK K hS hSA
      (have hS:=hS2);clear hS2
      (try simp only[Act.put,aW,aV,aU,aT,aS,aR])
      refine wpAnyH_ready (rs:=[19]) (by kernel_rfl) (by simp) ?_
      refine aH rfl (λK hK=>?_) aL
      go_simp
      refine(HN3.out _ _ _).mono ?_
      rintro x w2 ⟨b0,rfl,UW,hx2⟩
      refine hK.out _ _ UW (λhS2=>?_)
      clear hK K hS hx
      (have hx:=hx2);clear hx2
      (have hS:=hS2);clear hS2
      (try simp only[Act.put,aW,aV,aU,aT,aS,aR])
      refine wpAnyH_ready (rs:=[20]) (by kernel_rfl) (by simp) ?_
      refine aH rfl (λK hK=>?_) aL
      go_simp
      refine hK.out _ _ hS (λhS2=>?_)
      clear hK K hS2
      (try simp only[Act.put,aW,aV,aU,aT,aS,aR])
      refine wpAnyH_done (by kernel_rfl) ?_ _
      go_wp2_with fail
      go_ret
      exact hx.res (aY ..) (XH.out _ _ HP.out) (dD (by decide) (by decide))
    ·have b24:(m1.kind != 24)=true:=by simp[k24]
     have HK:=hid (And.intro k25 k24)
     clear k24 k25
     go_wp2_with (go_at_call 16;(with_reducible refine(Rt.wrong hx).mono ?_);rintro x w2 ⟨b4,rfl,hx2⟩;(replace hx:=hx2);clear hx2)
     go_ret
     refine hx.res (aY ..) (XH.out _ _ ?_) (dD (by decide) (by decide))
     have hq:=Ca HY.out HO.out (.inr HK.out)
     have hsm:bR bV (.ok s1)=false:=by
      cases q:bR bV (.ok s1) with
      | false=>rfl
      | true=>
       have q1:=(ak (xX.out s1 rfl)).1 q
       rw[(ak (xX.out s1 rfl)).1 ge] at q1
       exact absurd q1 (by decide)
     rw[jA (xX.out s1 rfl) hsm] at hq
     have U0:jI (.ok s1)=.error (70,y1.a):=by
      show Except.error (70,(qA s1).a)=_
      rw[(dS (xX.out s1 rfl)).1]
     rw[U0]
     exact hq.other
theorem Ho{W:World}{rb n:Nat}{l:ByteArray}{s:Cs}{y:Yd}(ce:nO 71 .ex n)(ll:LLC n)(hx0:Rx W W rb l (.ok s) y [])(hn:mu (.ok s)<=n)(g1:bR fU (.ok s)=false)(g2:bR jV (.ok s)=false)(g3:bR dU (.ok s)=false)(g4:bR dZ (.ok s)=false)(g5:bR jH (.ok s)=false)(g6:bR fD (.ok s)=false)(g7:bR gD (.ok s)=false)(g8:bR oF (.ok s)=false):Calls prog 43 #[ptr rb] W (qH W rb l .st (.ok s)):=by
 have hx:=Rt.start hx0
 have HX:=hid hx0
 have HY:=hid hx.ok
 have HN:=hid hn
 obtain⟨_,c1,c2,_,_,_⟩:=hx.cells
 have HE:=hid (K8 hx0.ok g1 g2 g3 g4 g5 g6 g7 g8)
 clear hn hx0
 go_enter func43,ntmps43
 go_upto_region 35 with(go_at_call 11;(with_reducible refine(Rt.nG hx _ (by decide) (by assumption)).mono ?_);rintro x w2 ⟨rfl,hw⟩;(have hw':=hw.symm);subst hw';clear hw)
 clear g1 g2 g3 g4 g5 g6 g7 g8 c2
 by_cases hk:y.t.kind=1
 rotate_left
 focus
  have b1:(y.t.kind==1)=false:=by simp[hk]
  have hpl:∀st1 o,aO .pl (.ok s) st1 o->aO .st (.ok s) st1 o:=λst1 o h=>oP HY.out (by rw[HE.out,if_neg (λq=>hk q.1)];exact h)
  clear hk
  go_upto_region 41 with(go_at_call 10;(with_reducible refine(dH hx.x).mono ?_);rintro x w2 ⟨rfl,hw⟩;(have hw':=hw.symm);subst hw';clear hw)
  exact GD ce hx HY.out HN.out hpl (by assumption)
 focus
  have b1:(y.t.kind==1)=true:=by simp[hk]
  have Jl:=hid hk
  clear hk
  go_upto_region 36 with(go_at_call 10;(with_reducible refine(dH hx.x).mono ?_);rintro x w2 ⟨rfl,hw⟩;(have hw':=hw.symm);subst hw';clear hw)
  clear b1 c1
  obtain⟨n0,o,c,g,hr,rfl,rfl,hl,hc,ho,ho2,Uy,hrr,hw⟩:=HX.out.rd
  obtain⟨m,rfl,hm,hlo,hrest⟩:∃m:Nat,n0=(m:Int)/\m<=l.size/\-(m:Int)<=o/\Uy=T (l.data.toList.drop m) m:=by
   rcases hw with⟨q,_⟩|⟨_,q⟩
   ·exact absurd q (by have:=Jl.out;omega)
   ·exact q
  have hsz:=HX.out.sz
  have CB:∀w,Calls prog 24 #[.string l,.int .i64 (m:Nat)] w λx w'=>w'=w/\∃k:Nat,x=.returned (.int .i64 k)/\m<=k/\k<=l.size/\T (l.data.toList.drop m) m=T (l.data.toList.drop k) k/\pV (l.data.toList.drop k):=λw=>CY l (by omega) m hm w
  have CX:∀k:Nat,(m<=k/\k<=l.size/\T (l.data.toList.drop m) m=T (l.data.toList.drop k) k/\pV (l.data.toList.drop k))->∀w,Calls prog 23 #[.string l,.int .i64 (k:Nat)] w λx w'=>(∃yy rest n',x=.returned (.tuple #[.agg #[.int .i64 yy.t.kind,.int .i64 yy.a,.string yy.t.text,.int .i64 yy.t.int,.int .u64 yy.t.bits],.int .i64 n',.agg #[.int .i64 yy.c,.int .i64 yy.f]])/\Gn l m yy rest n')/\Below w.heap.size w w':=by
   rintro k ⟨h1,h2,h3,h4⟩ w
   obtain⟨yy,rest,n',q1,q2⟩:=yx l m k h1 h2 h3 h4
   refine(yU l (by omega) k h2 w).mono ?_
   rintro x w' ⟨rfl,hb⟩
   rw[q1]
   exact⟨⟨yy,rest,n',rfl,q2⟩,hb⟩
  have HR:=hid (And.intro hr (And.intro hrr hrest))
  have XL:=hid CB
  have XK:=hid CX
  have lt:=HX.out.Ed
  clear CB CX hr hl hc ho ho2 hrr hw hm hlo hrest hsz hx
  go_cut [10,11,12] (λv4 v5 v6 wc=>∃ (a4 a6:Nat) (yy:Yd) (rest:List Yd) (n':Int),v4=ptr a4/\v5=.int .i64 n'/\v6=ptr a6/\LkB W l m yy rest a4 a6 n' wc)
  case first=>
   refine wp_region_held_drew (S:=λw'=>w'.heap[rb]? = W.heap[rb]?) (by kernel_rfl) rfl ?_
   intro hS
   have bf:Below W.heap.size W W.drew:=(bO _ W).drew
   generalize W.drew=w0 at *
   iterate 12 ((refine It.nH 0 ?_ rfl (by kernel_rfl) (λ_ _ _ h=>h) (Or.inl ⟨by rfl,?_⟩) hS ?_);rotate_left;(focus (intro w' hSw;((have e0:w'.cell? ⟨rb,0,none⟩=some (.string l):=aA (hSw.trans HR.out.1) 0);(have e6:w'.cell? ⟨rb,6,none⟩=some (.int .i64 (m:Nat)):=aA (hSw.trans HR.out.1) 6));go_simp;(try with_reducible rfl)));(try simp only[Act.put,aW,aV,aU,aT,aS,aR]))
   iterate 4
    all_goals (first|refine wpAnyH_ready (rs:=[12,18,19]) (by decide +kernel) (by simp) ?_|refine wpAnyH_ready (rs:=[12,18]) (by decide +kernel) (by simp) ?_|refine wpAnyH_ready (rs:=[12,19]) (by decide +kernel) (by simp) ?_|refine wpAnyH_ready (rs:=[12]) (by decide +kernel) (by simp) ?_|refine wpAnyH_ready (rs:=[13,18,19]) (by decide +kernel) (by simp) ?_|refine wpAnyH_ready (rs:=[13,18]) (by decide +kernel) (by simp) ?_|refine wpAnyH_ready (rs:=[13,19]) (by decide +kernel) (by simp) ?_|refine wpAnyH_ready (rs:=[13]) (by decide +kernel) (by simp) ?_|refine wpAnyH_ready (rs:=[18,19]) (by decide +kernel) (by simp) ?_|refine wpAnyH_ready (rs:=[18]) (by decide +kernel) (by simp) ?_|refine wpAnyH_ready (rs:=[19]) (by decide +kernel) (by simp) ?_)
    repeat' (first|exact aL|refine aH rfl (λK hK=>?_) ?_)
    all_goals (go_simp;first|(refine(XL.out _).mono ?_;rintro x wb ⟨hwb,k,rfl,hK2⟩;(have Sv:=hwb.symm);subst Sv;clear hwb;(have HK:=hid hK2);clear hK2;refine hK.out _ _ hS (λhS2=>?_);clear hK K hS;(have hS:=hS2);clear hS2;(try simp only[Act.put,aW,aV,aU,aT,aS,aR]))|(refine(XK.out _ HK.out _).mono ?_;rintro x w1 ⟨⟨yy,rest,n9,rfl,hF⟩,hB⟩;(have HF:=hid hF);clear hF;refine hK.out _ _ ((hB.block rb (gy lt bf.size)).trans hS) (λhS2=>?_);clear hK K hS;(have hS:=hS2);clear hS2;(try simp only[Act.put,aW,aV,aU,aT,aS,aR]);(try (replace hx4:=(hB.block a4 (bY.1 hx4).1).trans hx4));(try (replace hx6:=(hB.block a6 (bY.1 hx6).1).trans hx6));(replace bf:=bf.trans (hB.mono bf.size));clear hB;clear w0;(rename World=>w0);(refine wpAnyH_take (i:=14) (v:=?_) rfl (by kernel_rfl) (by kernel_rfl) (by kernel_rfl) (λ_ _ _ h=>h) (Or.inl ⟨by rfl,?_⟩) hS ?_);rotate_left;(focus (intro w' hSw;(skip);go_simp;(try with_reducible rfl)));(try simp only[Act.put,aW,aV,aU,aT,aS,aR]);(refine wpAnyH_take (i:=15) (v:=?_) rfl (by kernel_rfl) (by kernel_rfl) (by kernel_rfl) (λ_ _ _ h=>h) (Or.inl ⟨by rfl,?_⟩) hS ?_);rotate_left;(focus (intro w' hSw;(skip);go_simp;(try with_reducible rfl)));(try simp only[Act.put,aW,aV,aU,aT,aS,aR]);(refine wpAnyH_take (i:=16) (v:=?_) rfl (by kernel_rfl) (by kernel_rfl) (by kernel_rfl) (λ_ _ _ h=>h) (Or.inl ⟨by rfl,?_⟩) hS ?_);rotate_left;(focus (intro w' hSw;(skip);go_simp;(try with_reducible rfl)));(try simp only[Act.put,aW,aV,aU,aT,aS,aR]);(refine wpAnyH_take (i:=17) (v:=?_) rfl (by kernel_rfl) (by kernel_rfl) (by kernel_rfl) (λ_ _ _ h=>h) (Or.inl ⟨by rfl,?_⟩) hS ?_);rotate_left;(focus (intro w' hSw;(skip);go_simp;(try with_reducible rfl)));(try simp only[Act.put,aW,aV,aU,aT,aS,aR]))|(refine hK.out _ (dI w0 (.cells #[.int .i64 0,.int .i64 0,.string ⟨#[]⟩,.int .i64 0,.int .u64 0] 36)) ((gI _ _ _ (gy lt bf.size)).trans hS) (λhS2=>?_);clear hK K hS;(have hS:=hS2);clear hS2;(try simp only[Act.put,aW,aV,aU,aT,aS,aR]);(have hx4:=dQ w0 (.cells #[.int .i64 0,.int .i64 0,.string ⟨#[]⟩,.int .i64 0,.int .u64 0] 36));(have g4:=bf.size);(try (have n46:Array.size (World.heap w0)≠a6:=by have lo:=(bY.1 hx6).1;omega));(try (replace hx6:=(gI w0 (.cells #[.int .i64 0,.int .i64 0,.string ⟨#[]⟩,.int .i64 0,.int .u64 0] 36) a6 (bY.1 hx6).1).trans hx6));(have xO:=bf.alloc bf.size (.cells #[.int .i64 0,.int .i64 0,.string ⟨#[]⟩,.int .i64 0,.int .u64 0] 36));clear bf;(have bf:=xO);clear xO;generalize dI w0 _=w2 at *;generalize Array.size (World.heap w0)=a4 at *;clear w0;(rename World=>w0))|(refine hK.out _ (dI w0 (.cells #[.int .i64 0,.int .i64 0] 25)) ((gI _ _ _ (gy lt bf.size)).trans hS) (λhS2=>?_);clear hK K hS;(have hS:=hS2);clear hS2;(try simp only[Act.put,aW,aV,aU,aT,aS,aR]);(have hx6:=dQ w0 (.cells #[.int .i64 0,.int .i64 0] 25));(have g6:=bf.size);(try (have n46:a4≠Array.size (World.heap w0):=by have lo:=(bY.1 hx4).1;omega));(try (replace hx4:=(gI w0 (.cells #[.int .i64 0,.int .i64 0] 25) a4 (bY.1 hx4).1).trans hx4));(have xO:=bf.alloc bf.size (.cells #[.int .i64 0,.int .i64 0] 25));clear bf;(have bf:=xO);clear xO;generalize dI w0 _=w2 at *;generalize Array.size (World.heap w0)=a6 at *;clear w0;(rename World=>w0)))
   all_goals
    have z4:=aC hx4
    have e4:=aA hx4
    refine wpAnyH_ready (rs:=[20]) (by kernel_rfl) (by simp) ?_
    refine aH rfl (λK hK=>?_) aL
    go_simp
    refine hK.out _ _ ((iV (gb:=a4) (k:=rb) (by omega) _ _ _ _ _).trans hS) (λhS2=>?_)
    clear hK K hS
    (have hS:=hS2);clear hS2
    (try simp only[Act.put,aW,aV,aU,aT,aS,aR])
    refine wpAnyH_ready (rs:=[21]) (by kernel_rfl) (by simp) ?_
    refine aH rfl (λK hK=>?_) aL
    go_simp
    refine hK.out _ _ hS (λhS2=>?_)
    clear hK K hS
    (have hS:=hS2);clear hS2
    (try simp only[Act.put,aW,aV,aU,aT,aS,aR])
    clear e4
    have NI:=jT bf g4 (.int .i64 yy.t.kind) (.int .i64 yy.a) (.string yy.t.text) (.int .i64 yy.t.int) (.int .u64 yy.t.bits)
    have Sr:=gK hx4 (.int .i64 yy.t.kind) (.int .i64 yy.a) (.string yy.t.text) (.int .i64 yy.t.int) (.int .u64 yy.t.bits)
    have Ey:=(iV (gb:=a4) (k:=a6) (λe=>n46 e.symm) (.int .i64 yy.t.kind) (.int .i64 yy.a) (.string yy.t.text) (.int .i64 yy.t.int) (.int .u64 yy.t.bits)).trans hx6
    generalize World.setCell _ _ _=w8 at *
    clear hx4 hx6 z4 bf
    have z6:=aC Ey
    have e6:=aA Ey
    refine wpAnyH_ready (rs:=[22]) (by kernel_rfl) (by simp) ?_
    refine aH rfl (λK hK=>?_) aL
    go_simp
    refine hK.out _ _ ((dR _ _ _ _ (by show ¬rb=a6;omega)).trans ((dR _ _ _ _ (by show ¬rb=a6;omega)).trans hS)) (λhS2=>?_)
    clear hK K hS hS2 e6
    (try simp only[Act.put,aW,aV,aU,aT,aS,aR])
    have bf:=(NI.setCell (p:=⟨a6,0,none⟩) g6 (.int .i64 yy.c)).setCell (p:=⟨a6,1,none⟩) g6 (.int .i64 yy.f)
    have hx6:=aM (aM (c:=[.int .i64 0,.int .i64 0]) Ey 0 (.int .i64 yy.c)) 1 (.int .i64 yy.f)
    have hx4:=(dR (w8.setCell ⟨a6,0,none⟩ (.int .i64 yy.c)) ⟨a6,1,none⟩ (.int .i64 yy.f) a4 n46).trans ((dR w8 ⟨a6,0,none⟩ (.int .i64 yy.c) a4 n46).trans Sr)
    refine wpAnyH_done (by kernel_rfl) ?_ _
    go_wp2
    go_meet
    case rel=>exact⟨a4,a6,yy,rest,n9,rfl,rfl,rfl,g4,g6,n46,hx4,hx6,bf,HF.out⟩
  obtain⟨a4,a6,yy,rest,n',rfl,rfl,rfl,g4,g6,n46,hx4,hx6,bf,hF⟩:=hcut
  have hr2:s.r=y::yy::rest:=by rw[HR.out.2.1,HR.out.2.2,hF.1]
  have hck:=Ms hr2 hF.2.1
  have h4:((yy.c==0)=false/\colon s=false)\/((yy.c==0)=true/\(yy.t.kind==3)=false/\colon s=false)\/((yy.c==0)=true/\(yy.t.kind==3)=true/\(yy.t.text.toList==[58])=false/\colon s=false)\/((yy.c==0)=true/\(yy.t.kind==3)=true/\(yy.t.text.toList==[58])=true/\colon s=true):=by
   have ht:(yy.t.text.toList==[58])=decide (yy.t.text=⟨#[58]⟩):=(kE _ _).symm
   have hf:¬ (yy.c=0/\yy.t.kind=3/\yy.t.text=⟨#[58]⟩)->colon s=false:=by
    intro q
    cases e:colon s with
    | false=>rfl
    | true=>exact absurd (hck.1 e) q
   rw[ht]
   by_cases q1:yy.c=0
   ·by_cases q2:yy.t.kind=3
    ·by_cases q3:yy.t.text=⟨#[58]⟩
     ·exact .inr (.inr (.inr ⟨by simp[q1],by simp[q2],by simp[q3],hck.2 ⟨q1,q2,q3⟩⟩))
     ·exact .inr (.inr (.inl ⟨by simp[q1],by simp[q2],by simp[q3],hf (λq=>q3 q.2.2)⟩))
    ·exact .inr (.inl ⟨by simp[q1],by simp[q2],hf (λq=>q2 q.2.1)⟩)
   ·exact .inl ⟨by simp[q1],hf (λq=>q1 q.1)⟩
  have hx:=(Rt.start HX.out).below bf
  have e4:wc.cell? ⟨a4,0,none⟩=some (.int .i64 yy.t.kind):=aA hx4 0
  have e5:wc.cell? ⟨a4,2,none⟩=some (.string yy.t.text):=aA hx4 2
  have e6:wc.cell? ⟨a6,0,none⟩=some (.int .i64 yy.c):=aA hx6 0
  have HR2:=hid hr2
  clear hx4 hx6 hF hck hr2 bf XL XK HR
  rcases h4 with⟨d1,DI⟩|⟨d1,d2,DI⟩|⟨d1,d2,d3,DI⟩|⟨d1,d2,d3,DI⟩
  rotate_left 3
  focus
   have HCL:=hid (Ll HY.out HR2.out Jl.out DI)
   have HLB:=hid DI
   clear DI
   go_upto_region 38 with fail
   clear d1 d2 d3 e4 e5 e6
   go_upto_region 39 with(go_at_call 13;(with_reducible refine(Rt.name hx).mono ?_);rintro x w2 ⟨rfl,y1,hx2,q1⟩;(replace hx:=hx2);clear hx2)
   obtain⟨tb,htb,jg⟩:=hx.mq y
   rw[htb]
   (replace hx:=jg);clear jg htb
   generalize dI _ _=w9 at *
   go_upto_region 40 with(go_at_call 12;(with_reducible refine(Rt.stepT hx pF (by decide) HCL.out).mono ?_);rintro x w2 ⟨rfl,y2,hx2,q2⟩;(replace hx:=hx2);clear hx2)
   have Jr:=hid (show tb≠rb by have:=(hx.tk _ (aY ..)).1;have:=hx.x.lt;omega)
   have aAb:=hid (Rx.rW (k:=12) (y:=y) ⟨by have:=Jl.out;omega,by have:=Jl.out;omega⟩ HX.out.clean)
   go_wp2_with (go_at_call 73;(with_reducible refine(ll _ rb l _ _ tb y hx.x.gP (by have:=HN.out;omega) (hx.RI (aY ..)) Jr.out aAb.out).mono ?_);rintro x w2 hr;(have HRL:=hid hr);(unfold Po at hr);(obtain⟨b1,m1,k1,gT,y3,r9,rfl,hx2,ho3,hq3,hc3⟩:=hr))
   go_ret
   have xw:=ho3.mu
   refine⟨_,_,_,_,_,rfl,hx.x.up2 hx2 xw,oP HY.out ?_,hc3⟩
   rw[HE.out,if_pos ⟨Jl.out,HLB.out⟩]
   exact VY HY.out HCL.out ho3 hq3
  all_goals
   have hpl:∀st1 o,aO .pl (.ok s) st1 o->aO .st (.ok s) st1 o:=λst1 o h=>oP HY.out (by rw[HE.out,if_neg (λq=>by rw[DI] at q;exact absurd q.2 (by decide))];exact h)
   clear DI g4 g6 n46
   go_upto_region 41 with fail
   exact GD ce hx HY.out HN.out hpl (by assumption)
theorem K4(W:World)(rb:Nat)(l:ByteArray)(f:jv)(y:Yd)(hx0:Rx W W rb l (.error f) y []):Calls prog 43 #[ptr rb] W (qH W rb l .st (.error f)):=by
 have hx:=Rt.start hx0
 obtain⟨_,c1,c2,_,_,_⟩:=hx.cells
 have hb0:oH 0 (.error f):=λs e=>by cases e
 have hce:vT 71 .ex 0:=vT.of (λm hm=>absurd hm (Nat.not_lt_zero m)) DR
 clear hx0
 go_enter func43,ntmps43
 go_upto_region 54 with(first|((with_reducible (apply Calls.mono;first|exact Rt.nG hx _ (by decide) (rfl)|exact ji hx.x));rintro x w2 ⟨rfl,hw⟩;(have hw':=hw.symm);subst hw';clear hw)|(go_at_call 71;(with_reducible refine(Rt.VG hx hce hb0).mono ?_);rintro x w2 ⟨b1,m1,k1,st1,y1,rfl,hx2,ho1,hc1,hm1⟩;(replace hx:=hx2);clear hx2;(have he:=ho1.errs f rfl);subst he)|(go_at_call 14;(with_reducible refine(Rt.want hx _ (by decide)).mono ?_);rintro x w2 ⟨rfl,y4,hx2,q4⟩;(replace hx:=hx2);clear hx2))
 obtain⟨e0,e1,e3,ez⟩:=hx.x.fV (b:=b1) (nd:=m1) (ks:=k1) (by simp)
 go_wp2_with (go_at_call 9;(with_reducible refine(Rt.Od (b1:=b1) (f1:=Fo.one m1 k1) hx _ _ _ (by simp)).mono ?_);rintro x w2 ⟨b0,rfl,hx2⟩;(replace hx:=hx2);clear hx2)
 go_ret
 exact hx.res (aY ..) aO.bad (dD (by decide) (by decide))
theorem OO(n:Nat)(ce:nO 71 .ex n)(cc:nO 72 .iF n)(lb:Xb n)(ll:LLC n):nO 43 .st n:=by
 intro W rb l st y hx hn
 cases st with
 | error f=>exact K4 W rb l f y hx
 | ok s=>
  cases g1:bR fU (.ok s)
  ·cases g2:bR jV (.ok s)
   ·cases g3:bR dU (.ok s)
    ·cases g4:bR dZ (.ok s)
     ·cases g5:bR jH (.ok s)
      ·cases g6:bR fD (.ok s)
       ·cases g7:bR gD (.ok s)
        ·cases g8:bR oF (.ok s)
         ·exact Ho ce ll hx hn g1 g2 g3 g4 g5 g6 g7 g8
         ·exact KX ce hx hn g1 g2 g3 g4 g5 g6 g7 g8
        ·exact Bn ce hx hn g1 g2 g3 g4 g5 g6 g7
       ·exact x9 hx hn g1 g2 g3 g4 g5 g6
      ·exact EA hx hn g1 g2 g3 g4 g5
     ·exact KZ lb hx hn g1 g2 g3 g4
    ·exact Dz lb hx hn g1 g2 g3
   ·exact Nz cc hx hn g1 g2
  ·exact KY ce hx hn g1
def Pz(n:Nat):Prop:=nO 71 .ex n/\pU 98 (.int .i64 10) .un n/\pU 98 (.int .i64 2) .ng n/\nO 72 .iF n/\nO 43 .st n/\nO 26 .bl n
theorem Tp{n:Nat}(ce:∀m,m<n->nO 71 .ex m)(cu:∀m,m<n->pU 98 (.int .i64 10) .un m)(cn:∀m,m<n->pU 98 (.int .i64 2) .ng m):pU 98 (.int .i64 10) .un n/\pU 98 (.int .i64 2) .ng n/\pU 98 (.int .i64 0) .ex n:=by
 have X9:=Wm n cu (OQ n (OP n ce) ce)
 have a9:pU 98 (.int .i64 9) (.bn 6) n:=uE 9 (by decide) (by decide) n X9.top
 have a8:pU 98 (.int .i64 8) (.bn 5) n:=uE 8 (by decide) (by decide) n a9
 have a7:pU 98 (.int .i64 7) (.bn 4) n:=uE 7 (by decide) (by decide) n a8
 have a6:pU 98 (.int .i64 6) (.bn 3) n:=uE 6 (by decide) (by decide) n a7
 have a5:pU 98 (.int .i64 5) (.bn 2) n:=uE 5 (by decide) (by decide) n a6
 have a4:pU 98 (.int .i64 4) (.bn 1) n:=uE 4 (by decide) (by decide) n a5
 have a2:=Tg n cn (Ti n a4)
 exact⟨X9,a2,Wo n (Tn n a2)⟩
theorem Iw{n:Nat}(ce:vT 71 .ex n)(cb:vT 26 .bl n):Xb n:=by
 intro W rb l st y hx hn
 cases g:bR dU st with
 | false=>exact Ma ce cb hx hn g
 | true=>
  cases st with
  | error e=>cases g
  | ok s=>exact Dr ce cb hx hn g
theorem Lu{n:Nat}(ce:vT 71 .ex n)(cb:vT 26 .bl n):LLC n:=by
 intro W rb l st y tb z hx hn ht hne hz
 cases g:bR dU st with
 | false=>exact PN ce cb hx hn ht hne hz g
 | true=>
  cases st with
  | error e=>cases g
  | ok s=>exact Gv ce cb hx hn ht hne g
theorem Wv:∀n,Pz n:=by
 intro n
 induction n using Nat.strongRecOn with
 | ind n ih=>
  obtain⟨X9,a2,a0⟩:=Tp (n:=n) (λm hm=>(ih m hm).1) (λm hm=>(ih m hm).2.1) (λm hm=>(ih m hm).2.2.1)
  have ce:=Mf n a0
  have le:=vT.of (λm hm=>(ih m hm).1) DR
  have lb:=vT.of (λm hm=>(ih m hm).2.2.2.2.2) zT
  have cc:=Mw n le lb (λm hm=>(ih m hm).2.2.2.1)
  have cs:=OO n ce cc (Iw le lb) (Lu le lb)
  exact⟨ce,X9,a2,cc,cs,D5 n (λm hm=>(ih m hm).2.2.2.2.1)⟩
theorem Aj(n:Nat):nO 15 .fu n:=Ra n (vT.of (λm _=>(Wv m).2.2.2.2.2) zT)
end Go.Proofs.YtgchnkgolclmgaaGreatDoor.W.Tr
