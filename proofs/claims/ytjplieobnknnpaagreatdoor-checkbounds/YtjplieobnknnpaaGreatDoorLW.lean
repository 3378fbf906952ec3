import Derived.Test.YtjplieobnknnpaaGreatDoorKY
import Derived.Test.YtjplieobnknnpaaGreatDoorKA
import Derived.Test.YtjplieobnknnpaaGreatDoorLA
import Derived.Test.YtjplieobnknnpaaGreatDoorJJ
import Derived.Test.YtjplieobnknnpaaGreatDoorKZ
import Derived.Test.YtjplieobnknnpaaGreatDoorProg
import Derived.Below
import Derived.BigQuiet
import Derived.Deep.QuietTactic
import Derived.KernelRfl
import Derived.Laws.OwnMore
import Derived.Laws.Rows
import Derived.WalkKit
import Derived.WalkLawsBesides
import Derived.Shelf.Abstract
import Derived.Shelf.RegionOpen
import Derived.TacticsInMore
import Derived.Deep.Cut
import Derived.RangeFuncRecord
import Derived.Lib.AppendStr
import Derived.Test.YtjplieobnknnpaaGreatDoorJO
import Derived.LaidSub
import Derived.LaidMore
import Derived.Stop.Joined
import Derived.ProofKit
open List renaming length_append → z0z, range → z1z, append_assoc → z5z, mem_range → z7z, all_eq_true → z13z, length_cons → z14z, getElem?_toArray → z15z, getElem?_cons_zero → z16z, map_append → z18z, cons_append → z19z, getElem?_append_left → z24z, getElem?_append_right → z25z, getElem?_eq_getElem → z26z
open Array renaming getElem?_eq_some_iff → z11z
open Nat renaming le_refl → z3z, zero_add → z4z, zero_le → z8z, add_zero → z12z, le_max_right → z20z, le_max_left → z21z, lt_of_lt_of_le → z22z
open Go.World renaming setCell → z10z, frozen? → z17z, alloc_heap_new → z23z
open Go.RowKit.Below renaming refl → z6z
open Go.IntKind renaming i64 → z9z
open And renaming intro → z2z
open Go.Proofs.Tryz
set_option maxRecDepth 1000000
set_option maxHeartbeats 8000000
namespace Go.Proofs.YtjplieobnknnpaaGreatDoor.W.Tr
set_option linter.unusedVariables false
set_option linter.unusedSimpArgs false
abbrev yW(t:ByteArray)(a:Int):Yd:=⟨⟨2,t,0,0⟩,a,0,0⟩
abbrev yM(t:ByteArray)(a:Int):Yd:=⟨⟨3,t,0,0⟩,a,0,0⟩
abbrev yN(t:ByteArray)(a:Int):Yd:=⟨⟨1,t,0,0⟩,a,0,0⟩
abbrev yI(n a:Int):Yd:=⟨⟨4,⟨#[]⟩,n,0⟩,a,0,0⟩
abbrev k_f:ByteArray:=⟨#[102]⟩
def fnB:List UInt8:=[102,110,32,102,40,41,32,123]
def shB:List UInt8:=[125]
def fnT(a:Int):List Yd:=[yW ug (0+a),yN k_f (3+a),yM OM (4+a),yM NJ (5+a),yM Zt (7+a)]
def shT(a:Int):List Yd:=[yM PK (0+a)]
def fnF(f:Fo):Fo:=.cons ⟨3,3+0,k_f,0,0⟩ (.cons ⟨5,7+0,⟨#[]⟩,0,0⟩ f .nil) .nil
theorem norem{v:List UInt8}(h:(35:UInt8) ∉ v):JQ v:=λx y e=>absurd (by rw[e];simp) h
theorem lx(v:List UInt8)(ts:List Yd)(hT:T v 0=ts++[⟨Eo,(v.length:Nat),0,0⟩])(hc:∀y ∈ ts,y.c=0)(hR:(35:UInt8) ∉ v)(B:List UInt8)(a:Nat):T (v++32::B) a=ts.map (Ot a)++T B (a+v.length+1):=by
 refine AC1 32 v.length v B a _ (.inr ⟨rfl,norem hR⟩) (z3z _) ⟨?_,?_⟩
 ·have e:=AC2 a v.length v 0 (z3z _)
  rw[z4z,hT,z18z] at e
  rw[e]
  congr 1
  simp only[List.map_cons,List.map_nil,Ot,if_true]
  rw[show ((v.length:Nat):Int)+(a:Nat)=((a+v.length:Nat):Int) by omega]
 ·intro y hy
  obtain⟨z,hz,rfl⟩:=List.mem_map.1 hy
  unfold Ot
  rw[if_pos (hc z hz)]
  exact hc z hz
theorem lx_fn(B:List UInt8)(a:Nat):T (fnB++32::B) a=fnT a++T B (a+9):=lx fnB (fnT 0) (by kernel_rfl) (by decide) (by decide) B a
theorem lx_sh(B:List UInt8)(a:Nat):T (shB++32::B) a=shT a++T B (a+2):=lx shB (shT 0) (by kernel_rfl) (by decide) (by decide) B a
def rp(w:List UInt8):Nat->List UInt8
 | 0=>[]
 | n+1=>w++rp w n
theorem lx_last(a:Nat):T [125] a=shT a++[⟨Eo,((a+1:Nat):Int),0,0⟩]:=by
 have e:=AC2 a 1 [125] 0 (z3z _)
 rw[z4z,show T [125] 0=shT 0++[⟨Eo,1,0,0⟩] by kernel_rfl] at e
 rw[e]
 show shT a++[⟨Eo,1+((a:Nat):Int),0,0⟩]=_
 rw[show (1:Int)+((a:Nat):Int)=((a+1:Nat):Int) by omega]
def En(nt:Nt)(s:Cs)(r:Fo × Cs):Prop:=∃n,P n nt s=some (.ok r)
def Hd1(R:List Yd):Prop:=∃y R',R=y::R'/\y.c=0/\AP y.t≠aQ
def Sq(o:Int)(ts:List Yd)(f:Fo):Prop:=∀ (l:Fo) (R:List Yd) (r:Fo × Cs),Hd1 R->En (.blT (l.app f)) ⟨R,o⟩ r->En (.blT l) ⟨ts++R,o⟩ r
theorem ap_nil:∀f:Fo,f.app .nil=f
 | .nil=>rfl
 | .cons n k r=>by show Fo.cons n k (r.app .nil)=_;rw[ap_nil r]
theorem ap_app:∀f g h:Fo,(f.app g).app h=f.app (g.app h)
 | .nil,g,h=>rfl
 | .cons n k r,g,h=>by show Fo.cons n k ((r.app g).app h)=Fo.cons n k (r.app (g.app h));rw[ap_app r]
theorem Sq.nil(o:Int):Sq o [] .nil:=λl R r _ h=>by rw[ap_nil] at h;exact h
theorem look_at{y:Yd}{R:List Yd}{o:Int}(h:y.c=0)(ho:o≠64):look ⟨y::R,o⟩=.ok y:=by
 unfold look
 simp only[h,if_true]
 rw[if_neg (λk=>ho k.2)]
theorem lookM_at{y:Yd}{R:List Yd}{o:Int}(h:y.c=0)(ho:o≠64):BJ ⟨y::R,o⟩=some (.ok (y,⟨y::R,o⟩)):=by
 unfold BJ
 rw[look_at h ho]
theorem takeM_at{y:Yd}{R:List Yd}{o:Int}(h:y.c=0)(ho:o≠64):Bf ⟨y::R,o⟩=some (.ok (y,behind y ⟨y::R,o⟩)):=by
 unfold Bf
 rw[look_at h ho]
theorem wantM_at{t:ByteArray}{y:Yd}{R:List Yd}{o:Int}(h:y.c=0)(ho:o≠64)(ht:AP y.t=t):Bg t ⟨y::R,o⟩=some (.ok (y,behind y ⟨y::R,o⟩)):=by
 unfold Bg
 rw[bind_ok (lookM_at h ho),if_pos ht,takeM_at h ho]
theorem sq_one{o:Int}(ho:o≠64){y:Yd}{ts:List Yd}{f:Fo}(hy:y.c=0)(hk:AP y.t≠PK)(h:∀R,Hd1 R->En .st ⟨y::(ts++R),o⟩ (f,⟨R,o⟩)):Sq o (y::ts) f:=by
 intro l R r hR ⟨n,hn⟩
 obtain⟨m,hm⟩:=h R hR
 refine⟨max n m+1,?_⟩
 unfold P
 rw[z19z,bind_ok (lookM_at hy ho),if_neg hk,bind_ok (Yn (z20z n m) _ _ _ hm)]
 exact Yn (z21z n m) _ _ _ hn
theorem Sq.app{o:Int}{p q:List Yd}{f g:Fo}(h:Sq o p f)(k:Sq o q g)(hq:∀R,Hd1 R->Hd1 (q++R)):Sq o (p++q) (f.app g):=by
 intro l R r hR he
 rw[z5z]
 refine h l (q++R) r (hq R hR) (k (l.app f) R r hR ?_)
 rw[ap_app]
 exact he
theorem hd_sh(a:Int)(R:List Yd):Hd1 (shT a++R):=⟨_,_,rfl,rfl,(show AP ⟨3,PK,0,0⟩≠aQ by decide)⟩
theorem ex_true{o:Int}(ho:o≠64)(p q:Int)(R:List Yd):P 16 .ex ⟨yW bG p::yM Zt q::R,o⟩=some (.ok (Fo.one ⟨29,p,⟨#[]⟩,0,0⟩ .nil,⟨yM Zt q::R,o⟩)):=by
 simp[P,Pm.bind,Pm.pure,BJ,Bf,Bg,look,behind,AP,Gm,J8,tight,comp,ho,Ap,BD]
theorem bl_of{o:Int}(ho:o≠64)(h1:o+1≠64){ts:List Yd}{f:Fo}(h:Sq (o+1) ts f)(q b:Int)(R:List Yd):En .bl ⟨yM Zt q::(ts++(shT b++R)),o⟩ (Fo.one ⟨5,q,⟨#[]⟩,0,0⟩ f,⟨R,o⟩):=by
 obtain⟨n,hn⟩:=h .nil (shT b++R) (f,⟨R,o⟩) (hd_sh b R) ⟨1,by
  unfold P
  rw[show shT b++R=yM PK (0+b)::R from rfl,bind_ok (lookM_at rfl h1),if_pos (show AP ⟨3,PK,0,0⟩=PK by decide),bind_ok (wantM_at rfl h1 (show AP ⟨3,PK,0,0⟩=PK by decide))]
  show some (Except.ok ((Fo.nil).app f,(⟨R,o+1+0-1⟩:Cs)))=_
  rw[show o+1+0-1=o by omega]
  rfl⟩
 refine⟨n+1,?_⟩
 unfold P
 rw[bind_ok (wantM_at rfl ho (show AP ⟨3,Zt,0,0⟩=Zt by decide))]
 show (P n (.blT .nil)).bind _ ⟨ts++(shT b++R),o+1-0⟩=_
 rw[show o+1-0=o+1 by omega,bind_ok hn]
 rfl
theorem pg_of{ts:List Yd}{f:Fo}(h:Sq 1 ts f)(b e:Int):∃s',En (.pg .nil) ⟨fnT 0++(ts++(shT b++[⟨Eo,e,0,0⟩])),0⟩ (Fo.one ⟨1,0,⟨#[]⟩,0,0⟩ (fnF f),s'):=by
 obtain⟨n,hn⟩:=bl_of (o:=0) (by decide) (by decide) h (7+0) b [⟨Eo,e,0,0⟩]
 have hb:=Yn (z21z n 2) _ _ _ hn
 refine⟨⟨[⟨Eo,e,0,0⟩],0⟩,max n 2+1+1,?_⟩
 unfold P
 rw[show fnT 0++(ts++(shT b++[⟨Eo,e,0,0⟩]))=yW ug (0+0)::yN k_f (3+0)::yM OM (4+0)::yM NJ (5+0)::yM Zt (7+0)::(ts++(shT b++[⟨Eo,e,0,0⟩])) from rfl,bind_ok (lookM_at rfl (by decide)),if_neg (show ¬ (2:Int)=7 by decide),if_neg (show ¬AP ⟨2,ug,0,0⟩=Lh by decide)]
 have hf:P (max n 2+1) .fu ⟨yW ug (0+0)::yN k_f (3+0)::yM OM (4+0)::yM NJ (5+0)::yM Zt (7+0)::(ts++(shT b++[⟨Eo,e,0,0⟩])),0⟩=some (.ok (fnF f,⟨[⟨Eo,e,0,0⟩],0⟩)):=by
  unfold P
  rw[bind_ok (wantM_at rfl (by decide) (show AP ⟨2,ug,0,0⟩=ug by decide))]
  have hl:∀R,P 2 (.ls true) ⟨yM OM (4+0)::yM NJ (5+0)::R,0⟩=some (.ok (.nil,⟨R,0⟩)):=λR=>by kernel_rfl
  have hname:∀R,Er ⟨yN k_f (3+0)::R,0⟩=some (.ok (yN k_f (3+0),⟨R,0⟩)):=λR=>by kernel_rfl
  show (Er.bind _) ⟨yN k_f (3+0)::_,0⟩=_
  rw[bind_ok (hname _),bind_ok (Yn (z20z n 2) _ _ _ (hl _)),bind_ok hb]
  rfl
 rw[bind_ok hf]
 exact Yn (show 1<=max n 2+1 by omega) _ _ _ (by rfl)
def Gst(v:List UInt8)(Q:Fo->Prop):Prop:=∀ (B:List UInt8) (a:Nat),∃ts f,T (v++B) a=ts++T B (a+v.length)/\(∀o,0<=o->o<64->Sq o ts f)/\(∀R,Hd1 R->Hd1 (ts++R))/\Q f
theorem Gst.nil{Q:Fo->Prop}(h:Q .nil):Gst [] Q:=λB a=>⟨[],.nil,rfl,λo _ _=>Sq.nil o,λR h=>h,h⟩
theorem Gst.app{v w:List UInt8}{Q1 Q2 Q:Fo->Prop}(hv:Gst v Q1)(hw:Gst w Q2)(h:∀f g,Q1 f->Q2 g->Q (f.app g)):Gst (v++w) Q:=by
 intro B a
 obtain⟨t1,f1,e1,s1,h1,q1⟩:=hv (w++B) a
 obtain⟨t2,f2,e2,s2,h2,q2⟩:=hw B (a+v.length)
 refine⟨t1++t2,f1.app f2,?_,λo a b=>(s1 o a b).app (s2 o a b) h2,λR hR=>?_,h _ _ q1 q2⟩
 ·rw[z5z,e1,e2,z0z,Nat.add_assoc,z5z]
 ·rw[z5z]
  exact h1 _ (h2 R hR)
theorem gd_one{v:List UInt8}{y:Yd}{ts:List Yd}(hT:∀ (B:List UInt8) (a:Nat),T (v++B) a=(y::ts).map (Ot a)++T B (a+v.length))(hy:y.c=0)(hk:AP y.t≠PK)(he:AP y.t≠aQ){Q:Fo->Prop}(hs:∀a:Nat,∃f,(∀ (o:Int) (R:List Yd),En .st ⟨(y::ts).map (Ot a)++R,o⟩ (f,⟨R,o⟩))/\Q f):Gst v Q:=by
 intro B a
 obtain⟨f,h,hq⟩:=hs a
 have hc:(Ot a y).c=0/\(Ot a y).t=y.t:=by unfold Ot;rw[if_pos hy];exact⟨hy,rfl⟩
 refine⟨_,f,hT B a,λo h0 h1=>?_,λR _=>⟨_,_,rfl,hc.1,by rw[hc.2];exact he⟩,hq⟩
 exact sq_one (by omega) hc.1 (by rw[hc.2];exact hk) λR _=>h o R
def pcs(p:Nat->List UInt8):Nat->Nat->List UInt8
 | 0,i=>[]
 | n+1,i=>p i++pcs p n (i+1)
theorem gd_pcs{p:Nat->List UInt8}{Q:Nat->Fo->Prop}{S:Nat->Nat->Fo->Prop}(m:Nat)(hp:∀i,i<m->Gst (p i) (Q i))(h0:∀i,S 0 i .nil)(h1:∀n i f g,i<m->Q i f->S n (i+1) g->S (n+1) i (f.app g)):∀n i,n+i<=m->Gst (pcs p n i) (S n i)
 | 0,i,h=>Gst.nil (h0 i)
 | n+1,i,h=>Gst.app (hp i (by omega)) (gd_pcs m hp h0 h1 n (i+1) (by omega)) λf g a b=>h1 n i f g (by omega) a b
theorem gd_ends{v:List UInt8}{Q:Fo->Prop}(h:Gst v Q)(hl:v.length<=60000):∃f,Q f/\∃s',Ends (fnB++32::(v++[125])) (.ok (Fo.one ⟨1,0,⟨#[]⟩,0,0⟩ (fnF f),s')):=by
 obtain⟨ts,f,e,hs,_,hq⟩:=h [125] 9
 refine⟨f,hq,?_⟩
 obtain⟨s',n,hn⟩:=pg_of (hs 1 (by decide) (by decide)) ((9+v.length:Nat):Int) ((9+v.length+1:Nat):Int)
 refine⟨s',n,?_⟩
 have hl2:(fnB++32::(v++[125])).length<=65536:=by simp[fnB];omega
 rw[WI _ hl2,lx_fn,z4z,e,lx_last]
 exact hn
def Kp(c c':Sc):Prop:=c'.opn=c.opn/\c'.lps=c.lps/\∃s,c'.scs=s::c.scs.tail
theorem Kp.trans{a b c:Sc}(h:Kp a b)(k:Kp b c):Kp a c:=by
 obtain⟨h1,h2,s,h3⟩:=h
 obtain⟨k1,k2,t,k3⟩:=k
 refine⟨k1.trans h1,k2.trans h2,t,?_⟩
 rw[k3,h3]
 rfl
theorem lies_l{L:List (Nd × Nat)}{E:List Nat}{b:Nat}{f g:Fo}(h:Df L E b (f.app g)):Df L E b f/\Df L E (b+(AJ f).length) g:=by
 have key:∀ (f g:Fo) (b:Nat),Ed b (f.app g)=Ed b f++Ed (b+(AJ f).length) g:=by
  intro f
  induction f with
  | nil=>intro g b;simp[Fo.app,Ed,AJ]
  | cons n ks r _ ih=>
   intro g b
   simp only[Fo.app,Ed,AJ,ih,z14z,z0z,z19z,z5z]
   rw[show b+1+(AJ ks).length+(AJ r).length=b+((AJ ks).length+(AJ r).length+1) by omega]
 constructor
 ·intro i hi
  have:=h i (by rw[Ei,z0z];omega)
  rw[Ei,key,z24z hi,z24z (by rw[MK];exact hi)] at this
  exact this
 ·intro i hi
  have:=h ((AJ f).length+i) (by rw[Ei,z0z];omega)
  rw[Ei,key,z25z (by omega),z25z (by rw[MK];omega),MK,Nat.add_sub_cancel_left,<- Nat.add_assoc] at this
  exact this
theorem b_kind{L:List (Nd × Nat)}{E:List Nat}{b:Nat}{f:Fo}(h:Df L E b f)(i:Nat){p:Nd × Nat}(hp:(AJ f)[i]? = some p):Jl L (b+i)=p.1.kind/\Me L (b+i)=p.1.text/\KY L (b+i)=p.1.a:=by
 have hi:=(List.getElem?_eq_some_iff.1 hp).1
 unfold Jl Me KY
 rw[(h i hi).1,hp]
 exact⟨rfl,rfl,rfl⟩
def Go3(mr:Int)(f:Fo)(A B:Sc->Prop):Prop:=∀pm L E R b c,Df L E b f->A c->∃c',Dq Am pm L E R mr f b c=some (.inr c')/\Kp c c'/\B c'
def Go4(mr:Int)(f:Fo)(A:Sc->Prop)(x:Int × Int):Prop:=∀pm L E R b c,Df L E b f->A c->Dq Am pm L E R mr f b c=some (.inl x)
theorem Go3.nil(mr:Int){A:Sc->Prop}(hA:∀c,A c->c.scs≠[]):Go3 mr .nil A A:=λpm L E R b c _ hc=>⟨c,rfl,⟨rfl,rfl,by
 have:=hA c hc
 cases e:c.scs with
 | nil=>exact absurd e this
 | cons s q=>exact⟨s,rfl⟩⟩,hc⟩
theorem Go3.app{mr:Int}{f g:Fo}{A B C:Sc->Prop}(hf:Go3 mr f A B)(hg:Go3 mr g B C):Go3 mr (f.app g) A C:=by
 intro pm L E R b c hL hc
 obtain⟨c1,e1,k1,s1⟩:=hf pm L E R b c (lies_l hL).1 hc
 obtain⟨c2,e2,k2,s2⟩:=hg pm L E R _ c1 (lies_l hL).2 s1
 refine⟨c2,?_,k1.trans k2,s2⟩
 rw[WW,e1]
 exact e2
abbrev cI:Sc:=⟨[(k_f,1)],[(2,2,0),(1,1,0),(0,1,0)],[[],[],[]],[],[]⟩
def regB(f:Fo):Nat:=Iq ⟨3,3+0,k_f,0,0⟩ (.cons ⟨5,7+0,⟨#[]⟩,0,0⟩ f .nil)
theorem fn_ck(mr:Int)(f:Fo){A:Sc->Prop}(hA:A cI) :
  (∀B,Go3 mr f A B->∃c',B c'/\Jf Am mr (.cons ⟨1,0,⟨#[]⟩,0,0⟩ (fnF f) .nil)=some (if 64<c'.cst.length then (84,3) else if mr<(regB f:Nat) then (83,3) else (0,0)))/\(∀x,Go4 mr f A x->Jf Am mr (.cons ⟨1,0,⟨#[]⟩,0,0⟩ (fnF f) .nil)=some x):=by
 have hl:=(Nz (.cons ⟨1,0,⟨#[]⟩,0,0⟩ (fnF f) .nil)).kids
 have hLf:=hl.kids.kids
 have k0:=(b_kind (Nz (.cons ⟨1,0,⟨#[]⟩,0,0⟩ (fnF f) .nil)) 0 (p:=(⟨1,0,⟨#[]⟩,0,0⟩,1)) rfl).1
 obtain⟨k1,_,p1⟩:=b_kind hl 0 (p:=(⟨3,3+0,k_f,0,0⟩,1)) rfl
 have k2:=(b_kind hl 1 (p:=(⟨5,7+0,⟨#[]⟩,0,0⟩,f.len)) rfl).1
 have hf:Am k_f=none:=by kernel_rfl
 rw[ABs]
 generalize hLL:AJ (.cons ⟨1,0,⟨#[]⟩,0,0⟩ (fnF f) .nil)=L at *
 generalize hEE:Ed 0 (.cons ⟨1,0,⟨#[]⟩,0,0⟩ (fnF f) .nil)=E at *
 clear hLL hEE
 simp only[z4z,z12z] at hLf k0 k1 k2 p1
 have hrr:JR (Gs 1 (fnF f)) 1=regB f:=by simp[JR,Gs,fnF,regB]
 have hg0:Fy 1 (fnF f) []=[]:=rfl
 rw[hg0]
 generalize Gs 1 (fnF f)=R at *
 generalize Fg (fnF f) []=pm at *
 constructor
 ·intro B hg
  obtain⟨c',e,⟨eo,el,s,es⟩,hb⟩:=hg pm L E R 3 _ hLf hA
  refine⟨c',hb,?_⟩
  clear hb
  obtain⟨tk,op,sc,lp,cs⟩:=c'
  simp only[List.tail_cons] at eo el es
  subst eo el es
  simp only
  by_cases h1:64<cs.length
  ·simp[fnF,Dq,Ez,Gh,Ir,JE,LJ,OH,EO,EH,EZ,AJ,Fo.len,EM,DN,hf,k0,k1,k2,p1,e,h1]
  ·by_cases h2:mr<(regB f:Nat)
   ·simp[fnF,Dq,Ez,Gh,Ir,JE,LJ,OH,EO,EH,EZ,AJ,Fo.len,EM,DN,hf,k0,k1,k2,p1,e,h1,h2,hrr]
   ·simp[fnF,Dq,Ez,Gh,Ir,JE,LJ,OH,EO,EH,EZ,AJ,Fo.len,EM,DN,hf,k0,k1,k2,p1,e,h1,h2,hrr]
 ·intro x hg
  have e:=hg pm L E R 3 _ hLf hA
  simp[fnF,Dq,Ez,Gh,Ir,JE,LJ,OH,EO,EH,EZ,AJ,Fo.len,EM,DN,hf,k0,k1,k2,e]
theorem fn_bad(mr:Int)(f:Fo){x:Int}(hg:∀pm L E R b c,Df L E b f->c=cI->∃y,Dq Am pm L E R mr f b c=some (.inl (x,y))):∃y,Jf Am mr (.cons ⟨1,0,⟨#[]⟩,0,0⟩ (fnF f) .nil)=some (x,y):=by
 have hl:=(Nz (.cons ⟨1,0,⟨#[]⟩,0,0⟩ (fnF f) .nil)).kids
 have hLf:=hl.kids.kids
 have k2:=(b_kind hl 0 (p:=(⟨3,3+0,k_f,0,0⟩,1)) rfl).1
 have hf:Am k_f=none:=by kernel_rfl
 rw[ABs]
 generalize hLL:AJ (.cons ⟨1,0,⟨#[]⟩,0,0⟩ (fnF f) .nil)=L at *
 generalize hEE:Ed 0 (.cons ⟨1,0,⟨#[]⟩,0,0⟩ (fnF f) .nil)=E at *
 clear hLL hEE
 simp only[z4z,z12z] at hLf k2
 have hg0:Fy 1 (fnF f) []=[]:=rfl
 rw[hg0]
 generalize Gs 1 (fnF f)=R at *
 generalize Fg (fnF f) []=pm at *
 obtain⟨y,e⟩:=hg pm L E R 3 _ hLf rfl
 refine⟨y,?_⟩
 simp[fnF,Dq,Ez,Gh,Ir,JE,LJ,OH,EO,EH,EZ,AJ,Fo.len,EM,DN,hf,k2,e]
def dg(i:Nat):List UInt8:=if i<10 then [UInt8.ofNat (48+i)] else [UInt8.ofNat (48+i/10),UInt8.ofNat (48+i%10)]
theorem dg_len(i:Nat):(dg i).length<=2:=by unfold dg;split <;> simp
def ctB(i:Nat):List UInt8:=[111,117,116,32]++(dg i++[59])
def vrB(i:Nat):List UInt8:=[108,101,116,32,118]++(dg i++[32,61,32,110,105,108,59])
def brB:List UInt8:=[98,114,101,97,107,59]
def nmV(i:Nat):ByteArray:=⟨(118::dg i).toArray⟩
def ctT(i:Nat):List Yd:=[yW VH 0,yI i 4,yM Gx ((4+(dg i).length:Nat):Int)]
def vrT(i:Nat):List Yd:=[yW Lh 0,yN (nmV i) 4,yM Kz ((6+(dg i).length:Nat):Int),yW ABA ((8+(dg i).length:Nat):Int),yM Gx ((11+(dg i).length:Nat):Int)]
def brT:List Yd:=[yW dP 0,yM Gx 5]
theorem tab_get{α:Type}{f g:Nat->α}{n:Nat}(h:(z1z n).map f=(z1z n).map g){i:Nat}(hi:i<n):f i=g i:=by
 have e:=congrArg (λl=>l[i]?) h
 simpa [hi] using e
theorem ct_tab:(z1z 70).map (λi=>T (ctB i) 0)=(z1z 70).map (λi=>ctT i++[⟨Eo,((ctB i).length:Nat),0,0⟩]):=by kernel_rfl
theorem vr_tab:(z1z 70).map (λi=>T (vrB i) 0)=(z1z 70).map (λi=>vrT i++[⟨Eo,((vrB i).length:Nat),0,0⟩]):=by kernel_rfl
theorem br_tab:T brB 0=brT++[⟨Eo,((brB).length:Nat),0,0⟩]:=by kernel_rfl
theorem no35:(z1z 70).all (λi=>!(ctB i).contains 35 && !(vrB i).contains 35)=true:=by kernel_rfl
theorem no35_of{i:Nat}(hi:i<70):(35:UInt8) ∉ ctB i/\(35:UInt8) ∉ vrB i:=by
 have h:=z13z.1 no35 i (z7z.2 hi)
 simpa using h
theorem c0{i:Nat}:(∀y ∈ ctT i,y.c=0)/\(∀y ∈ vrT i,y.c=0)/\(∀y ∈ brT,y.c=0):=by
 refine⟨?_,?_,?_⟩ <;> (intro y hy;simp only[ctT,vrT,brT,List.mem_cons,List.not_mem_nil,or_false] at hy)
 ·rcases hy with rfl|rfl|rfl <;> rfl
 ·rcases hy with rfl|rfl|rfl|rfl|rfl <;> rfl
 ·rcases hy with rfl|rfl <;> rfl
def ctN(i:Nat)(f:Fo):Prop:=∃a b,f=.cons ⟨16,a,⟨#[]⟩,0,0⟩ (.cons ⟨26,b,⟨#[]⟩,i,0⟩ .nil .nil) .nil
def vrN(i:Nat)(f:Fo):Prop:=∃a b,f=.cons ⟨6,a,nmV i,0,0⟩ (.cons ⟨31,b,⟨#[]⟩,0,0⟩ .nil .nil) .nil
def brN(i:Nat)(f:Fo):Prop:=∃a,f=.cons ⟨13,a,⟨#[]⟩,0,0⟩ .nil .nil
theorem gd_of{v:List UInt8}{y:Yd}{ts:List Yd}(hT:T v 0=(y::ts)++[⟨Eo,(v.length:Nat),0,0⟩])(hc:∀z ∈ y::ts,z.c=0)(hR:(35:UInt8) ∉ v)(hk:AP y.t≠PK)(he:AP y.t≠aQ){Q:Fo->Prop}(hs:∀a:Nat,∃f,(∀ (o:Int) (R:List Yd),En .st ⟨(y::ts).map (Ot a)++R,o⟩ (f,⟨R,o⟩))/\Q f):Gst (v++[32]) Q:=by
 refine gd_one (y:=y) (ts:=ts) (λB a=>?_) (hc y (by simp)) hk he hs
 rw[z5z]
 have:=lx v (y::ts) hT hc hR B a
 rw[z0z]
 exact this
theorem st_ct(o p q r n:Int)(R:List Yd):En .st ⟨[yW VH p,yI n q,yM Gx r]++R,o⟩ (.cons ⟨16,p,⟨#[]⟩,0,0⟩ (.cons ⟨26,q,⟨#[]⟩,n,0⟩ .nil .nil) .nil,⟨R,o⟩):=by
 have e:P 40 .st ⟨[yW VH p,yI n q,yM Gx r]++R,o⟩=some (.ok (.cons ⟨16,p,⟨#[]⟩,0,0⟩ (.cons ⟨26,q,⟨#[]⟩,n,0⟩ .nil .nil) .nil,⟨R,o+0-0+0-0+0-0⟩)):=by kernel_rfl
 simp only[Int.add_zero,Int.sub_zero] at e
 exact⟨40,e⟩
theorem st_vr(o p q r s t:Int)(nm:ByteArray)(R:List Yd):En .st ⟨[yW Lh p,yN nm q,yM Kz r,yW ABA s,yM Gx t]++R,o⟩ (.cons ⟨6,q,nm,0,0⟩ (.cons ⟨31,s,⟨#[]⟩,0,0⟩ .nil .nil) .nil,⟨R,o⟩):=by
 have e:P 40 .st ⟨[yW Lh p,yN nm q,yM Kz r,yW ABA s,yM Gx t]++R,o⟩=some (.ok (.cons ⟨6,q,nm,0,0⟩ (.cons ⟨31,s,⟨#[]⟩,0,0⟩ .nil .nil) .nil,⟨R,o+0-0+0-0+0-0+0-0+0-0⟩)):=by kernel_rfl
 simp only[Int.add_zero,Int.sub_zero] at e
 exact⟨40,e⟩
theorem st_br(o p q:Int)(R:List Yd):En .st ⟨[yW dP p,yM Gx q]++R,o⟩ (.cons ⟨13,p,⟨#[]⟩,0,0⟩ .nil .nil,⟨R,o⟩):=by
 have e:P 40 .st ⟨[yW dP p,yM Gx q]++R,o⟩=some (.ok (.cons ⟨13,p,⟨#[]⟩,0,0⟩ .nil .nil,⟨R,o+0-0+0-0⟩)):=by kernel_rfl
 simp only[Int.add_zero,Int.sub_zero] at e
 exact⟨40,e⟩
theorem gd_ct{i:Nat}(hi:i<70):Gst (ctB i++[32]) (ctN i):=
 gd_of (y:=yW VH 0) (tab_get ct_tab hi) c0.1 (no35_of hi).1 (show AP ⟨2,VH,0,0⟩≠PK by decide) (show AP ⟨2,VH,0,0⟩≠aQ by decide) λa=>⟨_,λo R=>st_ct o _ _ _ _ R,_,_,rfl⟩
theorem gd_vr{i:Nat}(hi:i<70):Gst (vrB i++[32]) (vrN i):=
 gd_of (y:=yW Lh 0) (tab_get vr_tab hi) c0.2.1 (no35_of hi).2 (show AP ⟨2,Lh,0,0⟩≠PK by decide) (show AP ⟨2,Lh,0,0⟩≠aQ by decide) λa=>⟨_,λo R=>st_vr o _ _ _ _ _ _ R,_,_,rfl⟩
theorem gd_br(i:Nat):Gst (brB++[32]) (brN i):=
 gd_of (y:=yW dP 0) br_tab (c0 (i:=0)).2.2 (by decide) (show AP ⟨2,dP,0,0⟩≠PK by decide) (show AP ⟨2,dP,0,0⟩≠aQ by decide) λa=>⟨_,λo R=>st_br o _ _ R,_,rfl⟩
def My(f:Fo)(d:Nat):Prop:=∀kids nth h m,He 5 kids f nth h m<=max m (h+d)
theorem my_reg{f:Fo}{d:Nat}(h:My f d)(hd:d<=60):regB f<=64:=by
 have:=h f.len 0 0 0
 simp[regB,Iq,He,Dv,Ee,Fo.len] at this ⊢
 omega
abbrev kc(i:Nat):Nd × Nat:=(⟨26,0,⟨#[]⟩,i,0⟩,0)
def kl(n:Nat):List ((Nd × Nat) × Nat):=(z1z n).map λi=>(kc i,1)
theorem bump_new{k:Nd × Nat}:∀ {l:List ((Nd × Nat) × Nat)},(∀p ∈ l,Hz k p.1=false)->bump l k=l++[(k,1)]
 | [],h=>rfl
 | p::l,h=>by
  unfold bump
  rw[if_neg (by rw[h p (by simp)];simp),bump_new (λq hq=>h q (by simp[hq]))]
  rfl
theorem kl_bump(n:Nat):bump (kl n) (kc n)=kl (n+1):=by
 rw[bump_new]
 ·unfold kl
  rw[List.range_succ,z18z]
  rfl
 ·intro p hp
  obtain⟨i,hi,rfl⟩:=List.mem_map.1 hp
  have:=z7z.1 hi
  have e:((n:Int)==(i:Int))=false:=by simp;omega
  simp[Hz,e]
def A1(i:Nat)(c:Sc):Prop:=c.opn.length<=10/\c.scs≠[]/\c.cst=kl i
theorem go_ct(mr:Int){i:Nat}{f:Fo}(hf:ctN i f):Go3 mr f (A1 i) (A1 (i+1)):=by
 obtain⟨x,y,rfl⟩:=hf
 intro pm L E R b c hL ⟨ho,hs,hc⟩
 have k0:=(b_kind hL 0 (p:=(⟨16,x,⟨#[]⟩,0,0⟩,1)) rfl).1
 have k1:=(b_kind hL 1 (p:=(⟨26,y,⟨#[]⟩,i,0⟩,0)) rfl).1
 rw[z12z] at k0
 obtain⟨tk,op,sc,lp,cs⟩:=c
 simp only at ho hs hc
 subst hc
 have hn1:¬256<op.length:=by omega
 have hn2:¬256<op.length+1:=by omega
 have hb:=kl_bump i
 cases sc with
 | nil=>exact absurd rfl hs
 | cons s q=>
  refine⟨⟨tk,op,s::q,lp,kl (i+1)⟩,?_,⟨rfl,rfl,s,rfl⟩,ho,by simp,rfl⟩
  simp[Dq,Ez,Gh,Ir,JE,LJ,OH,EO,EH,EZ,AJ,Fo.len,k0,k1,hn1,hn2,hb]
def S1(n i:Nat)(f:Fo):Prop:=(∀mr,Go3 mr f (A1 i) (A1 (i+n)))/\My f 1
theorem my_app{g:Fo}{x:Nd}{k:Fo}(hx:x.kind≠6)(hk:∀h,He x.kind k.len k 0 h (Ee x.kind h)<=h+1)(hg:My g 1):My ((Fo.cons x k .nil).app g) 1:=by
 intro kids nth h m
 have h1:=hk h
 have h2:=hg kids (nth+1) h (max m (He x.kind k.len k 0 h (Ee x.kind h)))
 show He 5 kids (.cons x k (Fo.nil.app g)) nth h m<=_
 simp only[He,Dv,Fo.app,hx,if_false] at h1 h2 ⊢
 simp at h1 h2 ⊢
 omega
theorem gs_ct{n:Nat}(hn:n<=70):Gst (pcs (λi=>ctB i++[32]) n 0) (S1 n 0):=
 gd_pcs 70 (λi hi=>gd_ct hi) (λi=>⟨λmr=>Go3.nil mr (λc h=>h.2.1),λkids nth h m=>by simp[He];try omega⟩) (λn i f g hi hf hg=>by
  refine⟨λmr=>?_,?_⟩
  ·have h2:=hg.1 mr
   rw[show i+1+n=i+(n+1) by omega] at h2
   exact(go_ct mr hf).app h2
  ·obtain⟨x,y,rfl⟩:=hf
   exact my_app (show (16:Int)≠6 by decide) (λh=>by simp[He,Dv,Ee,Fo.len]) hg.2) n 0 (by omega)
theorem nm_tab:(z1z 70).all (λj=>(z1z j).all λi=>!(nmV j==nmV i))=true:=by kernel_rfl
theorem nm_ne{i j:Nat}(h:i<j)(hj:j<70):(nmV j==nmV i)=false:=by
 have h1:=z13z.1 nm_tab j (z7z.2 hj)
 have h2:=z13z.1 h1 i (z7z.2 h)
 simpa using h2
theorem has_put2{x y:ByteArray}{v:Nat}(hxy:(y==x)=false):∀ {l:List (ByteArray × Nat)},DN l y=false->DN (EM l x v) y=false
 | [],h=>by simp[EM,DN,hxy]
 | p::l,h=>by
  unfold DN at h
  simp only[List.any_cons,Bool.or_eq_false_iff] at h
  unfold EM
  split
  ·simp only[DN,List.any_cons,hxy,Bool.false_or]
   exact h.2
  ·have:=has_put2 (v:=v) hxy (l:=l) h.2
   simp only[DN,List.any_cons,h.1,Bool.false_or]
   exact this
def A2(i:Nat)(c:Sc):Prop:=c.opn.length<=10/\c.cst=[]/\∃s q,c.scs=s::q/\∀j,i<=j->j<70->DN s (nmV j)=false
theorem go_vr(mr:Int){i:Nat}(hi:i<70){f:Fo}(hf:vrN i f):Go3 mr f (A2 i) (A2 (i+1)):=by
 obtain⟨x,y,rfl⟩:=hf
 intro pm L E R b c hL ⟨ho,hc,s,q,hs,hh⟩
 obtain⟨k0,t0,_⟩:=b_kind hL 0 (p:=(⟨6,x,nmV i,0,0⟩,1)) rfl
 have k1:=(b_kind hL 1 (p:=(⟨31,y,⟨#[]⟩,0,0⟩,0)) rfl).1
 rw[z12z] at k0 t0
 obtain⟨tk,op,sc,lp,cs⟩:=c
 simp only at ho hs hc
 subst hc hs
 have hn1:¬256<op.length:=by omega
 have hn2:¬256<op.length+1:=by omega
 have h0:=hh i (z3z _) hi
 refine⟨⟨tk,op,EM s (nmV i) b::q,lp,[]⟩,?_,⟨rfl,rfl,_,rfl⟩,ho,rfl,_,_,rfl,λj h1 h2=>has_put2 (nm_ne (by omega) h2) (hh j (by omega) h2)⟩
 simp[Dq,Ez,Gh,Ir,JE,LJ,OH,EO,EH,EZ,AJ,Fo.len,k0,k1,t0,hn1,hn2,h0]
def S2(n i:Nat)(f:Fo):Prop:=(∀mr,Go3 mr f (A2 i) (A2 (i+n)))/\(∀kids nth h m,He 5 kids f nth h m=if n=0 then m else max m (h+n))/\f.len=n
theorem len_app2:∀f g:Fo,(f.app g).len=f.len+g.len
 | .nil,g=>by simp[Fo.app,Fo.len]
 | .cons n k r,g=>by simp only[Fo.app,Fo.len,len_app2 r g];omega
theorem gs_vr{n:Nat}(hn:n<=70):Gst (pcs (λi=>vrB i++[32]) n 0) (S2 n 0):=
 gd_pcs 70 (λi hi=>gd_vr hi) (λi=>⟨λmr=>Go3.nil mr (λc h=>by obtain⟨_,_,s,q,e,_⟩:=h;rw[e];simp),λkids nth h m=>by simp[He],rfl⟩) (λn i f g hi hf hg=>by
  refine⟨λmr=>?_,?_,?_⟩
  ·have h2:=hg.1 mr
   rw[show i+1+n=i+(n+1) by omega] at h2
   exact(go_vr mr hi hf).app h2
  ·obtain⟨x,y,rfl⟩:=hf
   intro kids nth h m
   show He 5 kids (.cons _ _ (Fo.nil.app g)) nth h m=_
   have h2:=hg.2.1 kids (nth+1) (h+1) (max m (h+1))
   simp only[He,Dv,Ee,Fo.app,Fo.len] at h2 ⊢
   simp at h2 ⊢
   rw[h2]
   split
   ·subst n;rfl
   ·omega
  ·obtain⟨x,y,rfl⟩:=hf
   rw[len_app2,hg.2.2]
   simp[Fo.len];omega) n 0 (by omega)
theorem vr_reg{n:Nat}{f:Fo}(h:S2 n 0 f):regB f=n:=by
 have:=h.2.1 f.len 0 0 0
 simp[regB,Iq,He,Dv,Ee,Fo.len] at this ⊢
 rw[this]
 split <;> omega
def A3(c:Sc):Prop:=c.opn.length<=10/\c.scs≠[]/\c.lps≠[]/\c.cst=[]
theorem go_br(mr:Int){i:Nat}{f:Fo}(hf:brN i f):Go3 mr f A3 A3:=by
 obtain⟨x,rfl⟩:=hf
 intro pm L E R b c hL ⟨ho,hs,hl,hc⟩
 have k0:=(b_kind hL 0 (p:=(⟨13,x,⟨#[]⟩,0,0⟩,0)) rfl).1
 rw[z12z] at k0
 obtain⟨tk,op,sc,lp,cs⟩:=c
 simp only at ho hs hl hc
 subst hc
 have hn1:¬256<op.length:=by omega
 have e0:(⟨#[]⟩:ByteArray).toList=[]:=toList_eq ⟨#[]⟩
 cases sc with
 | nil=>exact absurd rfl hs
 | cons s q=>
  cases lp with
  | nil=>exact absurd rfl hl
  | cons l r=>
   refine⟨⟨tk,op,s::q,l::r,[]⟩,?_,⟨rfl,rfl,s,rfl⟩,ho,by simp,by simp,rfl⟩
   simp[Dq,Ez,Gh,Ir,JE,LJ,OH,EO,EH,EZ,AJ,Fo.len,k0,hn1,e0]
def S3(n i:Nat)(f:Fo):Prop:=(∀mr,Go3 mr f A3 A3)/\My f 0/\(AJ f).length=n/\Wt .ss f/\Ce f
theorem rd_by{l:List UInt8}{u:Fo}(h:∃s',Ends l (.ok (Fo.one ⟨1,0,⟨#[]⟩,0,0⟩ u,s')))(hw:Wt .us u)(hall:Ce u)(hN:(AJ u).length<=6010):Rd l u:=by
 obtain⟨s',he⟩:=h
 obtain⟨hIs,fuel,hpr⟩:=mF hw hall hN
 have er:AJ (Fo.cons ⟨1,0,⟨#[]⟩,0,0⟩ u .nil)=(⟨1,0,⟨#[]⟩,0,0⟩,u.len)::AJ u:=by simp[AJ]
 refine⟨⟨s',he⟩,hw,jr hIs ?_ hpr,?_⟩
 ·rw[er]
  intro p hp
  rcases List.mem_cons.1 hp with rfl|hp
  ·have:=MF u
   exact⟨⟨by show (1:Int)<=1/\(1:Int)<=31;decide,z8z _,by show u.len<=1000000;omega,by show (-9223372036854775808:Int)<=0/\(0:Int)<=9223372036854775807;decide⟩,by show (0:Int)<=0;decide,by show (0:Int)<18446744073709551616;decide⟩
  ·obtain⟨hk,hs,hi,hbb⟩:=Qg hall p hp
   have:=UD u p hp
   exact⟨⟨hk,by omega,by omega,hi⟩,hbb.1,hbb.2⟩
 ·have er2:(AJ (Fo.cons ⟨1,0,⟨#[]⟩,0,0⟩ u .nil)).length=(AJ u).length+1:=by simp[AJ]
  omega
theorem wt_front{x g:Fo}(hx:Wt .st x)(hg:Wt .ss g):Wt .ss (x.app g):=by
 generalize hs:So.ss=s at hg
 induction hg with
 | snil=>
  have:=Wt.ssnoc Wt.snil hx
  rw[ap_nil]
  exact this
 | ssnoc h1 h2 ih1 ih2=>
  rw[<- ap_app]
  exact Wt.ssnoc (ih1 rfl) h2
 | _=>cases hs
theorem gs_br(n:Nat):Gst (pcs (λ_=>brB++[32]) n 0) (S3 n 0):=
 gd_pcs n (λi _=>gd_br i) (λi=>⟨λmr=>Go3.nil mr (λc h=>h.2.1),(λkids nth h m=>by simp[He];try omega),rfl,Wt.snil,trivial⟩) (λn i f g _ hf hg=>by
  refine⟨λmr=>(go_br mr hf).app (hg.1 mr),?_,?_,?_,?_⟩
  ·obtain⟨x,rfl⟩:=hf
   intro kids nth h m
   have h2:=hg.2.1 kids (nth+1) h m
   show He 5 kids (.cons _ _ (Fo.nil.app g)) nth h m<=_
   simp[He,Dv,Ee,Fo.app,Fo.len] at h2 ⊢
   omega
  ·obtain⟨x,rfl⟩:=hf
   rw[Ei,z0z,hg.2.2.1]
   simp[AJ]
   omega
  ·obtain⟨x,rfl⟩:=hf
   exact wt_front (Wt.s0 (.inl rfl) ⟨by kernel_rfl,by kernel_rfl⟩) hg.2.2.2.1
  ·obtain⟨x,rfl⟩:=hf
   exact QB ⟨VK 13 x (by decide),trivial,trivial⟩ hg.2.2.2.2) n 0 (by omega)
def whB:List UInt8:=[119,104,105,108,101,32,116,114,117,101,32,123]
def whT(a:Int):List Yd:=[yW Rv (0+a),yW bG (6+a),yM Zt (11+a)]
def whF(a:Int)(f:Fo):Fo:=.cons ⟨10,0+a,⟨#[]⟩,0,0⟩ (.cons ⟨29,6+a,⟨#[]⟩,0,0⟩ .nil (.cons ⟨5,11+a,⟨#[]⟩,0,0⟩ f .nil)) .nil
theorem lx_wh(B:List UInt8)(a:Nat):T (whB++32::B) a=whT a++T B (a+13):=lx whB (whT 0) (by kernel_rfl) (by decide) (by decide) B a
theorem sq_wh{o:Int}(ho:o≠64)(h1:o+1≠64){ts:List Yd}{f:Fo}(h:Sq (o+1) ts f)(a b:Int):Sq o (whT a++(ts++shT b)) (whF a f):=by
 refine sq_one ho rfl (show AP ⟨2,Rv,0,0⟩≠PK by decide) λR hR=>?_
 obtain⟨n,hn⟩:=bl_of ho h1 h (11+a) b R
 have hx:=Yn (z20z n 16) .ex _ _ (ex_true ho (6+a) (11+a) (ts++(shT b++R)))
 have hb:=Yn (z21z n 16) _ _ _ hn
 refine⟨max n 16+1+1,?_⟩
 unfold P
 rw[bind_ok (lookM_at rfl ho),if_neg (show ¬AP ⟨2,Rv,0,0⟩=Lh by decide),if_neg (show ¬AP ⟨2,Rv,0,0⟩=Oq by decide),if_pos (show AP ⟨2,Rv,0,0⟩=Rv by decide)]
 unfold P
 rw[bind_ok (wantM_at rfl ho (show AP ⟨2,Rv,0,0⟩=Rv by decide))]
 show (P (max n 16) .ex).bind _ ⟨yW bG (6+a)::yM Zt (11+a)::((ts++shT b)++R),o+0-0⟩=_
 rw[show o+0-0=o by omega,z5z,bind_ok hx,bind_ok hb]
 rfl
theorem wh_ends(n:Nat)(hn:n<=2000):∃f,S3 n 0 f/\∃s',Ends (fnB++32::(whB++32::(pcs (λ_=>brB++[32]) n 0++[125,32,125]))) (.ok (Fo.one ⟨1,0,⟨#[]⟩,0,0⟩ (fnF (whF 9 f)),s')):=by
 obtain⟨ts,f,e,hs,_,hq⟩:=gs_br n [125,32,125] 22
 have hl:∀n i,(pcs (λ_=>brB++[32]) n i).length=7*n:=by
  intro n
  induction n with
  | zero=>intro i;rfl
  | succ n ih=>intro i;simp only[pcs,z0z,ih];simp[brB];omega
 refine⟨f,hq,?_⟩
 obtain⟨s',m,hm⟩:=pg_of (sq_wh (o:=1) (by decide) (by decide) (hs _ (by decide) (by decide)) 9 ((22+7*n:Nat):Int)) ((22+7*n+2:Nat):Int) ((22+7*n+2+1:Nat):Int)
 refine⟨s',m,?_⟩
 have hl2:(fnB++32::(whB++32::(pcs (λ_=>brB++[32]) n 0++[125,32,125]))).length<=65536:=by
  simp only[z0z,z14z,hl]
  simp[fnB,whB]
  omega
 rw[WI _ hl2,lx_fn,z4z,lx_wh,show 9+13=22 from rfl,e,hl,show ([125,32,125]:List UInt8)=shB++32::[125] from rfl,lx_sh,lx_last]
 simp only[z5z] at hm ⊢
 exact hm
theorem go_wh(mr:Int){n:Nat}{f:Fo}(hf:S3 n 0 f)(a:Int):(n+3<=1000->Go3 mr (whF a f) (· = cI) (λc=>c.cst=[]))/\(1000<n+3->Go4 mr (whF a f) (· = cI) (85,0+a)):=by
 have e0:(⟨#[]⟩:ByteArray).toList=[]:=toList_eq ⟨#[]⟩
 have key:∀ {L:List (Nd × Nat)} {E:List Nat} {b:Nat},Df L E b (whF a f)->Jl L b=10/\Jl L (b+1)=29/\Jl L (b+2)=5/\IV E b-b=n+3/\Df L E (b+3) f:=by
  intro L E b hL
  refine⟨(b_kind hL 0 (p:=(⟨10,0+a,⟨#[]⟩,0,0⟩,2)) rfl).1,(b_kind hL 1 (p:=(⟨29,6+a,⟨#[]⟩,0,0⟩,0)) rfl).1,(b_kind hL 2 (p:=(⟨5,11+a,⟨#[]⟩,0,0⟩,f.len)) rfl).1,?_,?_⟩
  ·unfold IV
   rw[hL.head.2]
   simp[AJ,hf.2.2.1]
   omega
  ·have:=hL.kids.rest.kids
   simpa [AJ] using this
 constructor
 ·rintro hn pm L E R b c hL rfl
  obtain⟨k0,k1,k2,hE,hLf⟩:=key hL
  obtain⟨c',e,⟨eo,el,s,es⟩,⟨_,_,_,ec⟩⟩:=hf.1 mr pm L E R (b+3) ⟨[(k_f,1)],[(b+2,3,1),(b,3,0),(2,2,0),(1,1,0),(0,1,0)],[[],[],[],[]],[⟨#[]⟩],[]⟩ hLf ⟨by simp,by simp,by simp,rfl⟩
  obtain⟨tk,op,sc,lp,cs⟩:=c'
  simp only[List.tail_cons] at eo el es ec
  subst eo el es ec
  have hn1:¬1000<IV E b-b:=by omega
  refine⟨⟨tk,[(2,2,0),(1,1,0),(0,1,0)],[[],[],[]],[],[]⟩,?_,⟨rfl,rfl,_,rfl⟩,rfl⟩
  unfold whF
  simp[Dq,Ez,Gh,Ir,JE,LJ,OH,EO,EH,EZ,AJ,Fo.len,k0,k1,k2,hn1,e0,e]
 ·rintro hn pm L E R b c hL rfl
  obtain⟨k0,k1,k2,hE,hLf⟩:=key hL
  have hn1:1000<IV E b-b:=by omega
  unfold whF
  simp[Dq,Ez,Gh,Ir,JE,LJ,OH,Fo.len,hn1,e0]
theorem wh_reg{n:Nat}{f:Fo}(hf:S3 n 0 f)(a:Int):regB (whF a f)<=64:=by
 refine my_reg (d:=1) (λkids nth h m=>?_) (by decide)
 have:=hf.2.1 f.len 0 h 0
 unfold whF
 simp[He,Dv,Ee,Fo.len] at this ⊢
 omega
theorem wh_rd{n:Nat}(hn:n<=2000){f:Fo}(hf:S3 n 0 f){l:List UInt8}(h:∃s',Ends l (.ok (Fo.one ⟨1,0,⟨#[]⟩,0,0⟩ (fnF (whF 9 f)),s'))):Rd l (fnF (whF 9 f)):=by
 refine rd_by h ?_ ?_ ?_
 ·have hb:Wt .b (.cons ⟨5,11+9,⟨#[]⟩,0,0⟩ f .nil):=Wt.block rfl ⟨by kernel_rfl,by kernel_rfl⟩ hf.2.2.2.1
  have he:Wt .e (.cons ⟨29,6+9,⟨#[]⟩,0,0⟩ .nil .nil):=Wt.leaf (.inr (.inr (.inr (.inr (.inl rfl))))) ⟨by kernel_rfl,by kernel_rfl⟩
  have hw:Wt .w (whF 9 f):=Wt.whil (n:=⟨10,0+9,⟨#[]⟩,0,0⟩) rfl ⟨by kernel_rfl,by kernel_rfl⟩ he hb
  have hs:Wt .ss (whF 9 f):=Wt.ssnoc Wt.snil (Wt.stw hw)
  have hb2:Wt .b (.cons ⟨5,7+0,⟨#[]⟩,0,0⟩ (whF 9 f) .nil):=Wt.block rfl ⟨by kernel_rfl,by kernel_rfl⟩ hs
  exact Wt.usnoc Wt.unil (Wt.func (n:=⟨3,3+0,k_f,0,0⟩) rfl ⟨by kernel_rfl,by kernel_rfl⟩ Wt.pnil hb2)
 ·refine⟨⟨by decide,by decide,by decide,by decide⟩,⟨VK 5 _ (by decide),⟨VK 10 _ (by decide),⟨VK 29 _ (by decide),trivial,VK 5 _ (by decide),hf.2.2.2.2,trivial⟩,trivial⟩,trivial⟩,trivial⟩
 ·simp[fnF,whF,AJ,hf.2.2.1]
  omega
def otB:List UInt8:=[111,117,116]
def ntB:List UInt8:=[110,111,116]
def trB:List UInt8:=[116,114,117,101,59]
def ntT:Nat->Int->List Yd
 | 0,a=>[]
 | k+1,a=>yW Zm (0+a)::ntT k (a+4)
def ntF:Nat->Int->Int->Fo
 | 0,a,q=>.cons ⟨29,q,⟨#[]⟩,0,0⟩ .nil .nil
 | k+1,a,q=>.cons ⟨20,0+a,⟨#[]⟩,0,0⟩ (ntF k (a+4) q) .nil
theorem lx_ot(B:List UInt8)(a:Nat):T (otB++32::B) a=[yW VH (0+(a:Int))]++T B (a+4):=lx otB [yW VH 0] (by kernel_rfl) (by decide) (by decide) B a
theorem lx_nt(B:List UInt8)(a:Nat):T (ntB++32::B) a=[yW Zm (0+(a:Int))]++T B (a+4):=lx ntB [yW Zm 0] (by kernel_rfl) (by decide) (by decide) B a
theorem lx_tr(B:List UInt8)(a:Nat):T (trB++32::B) a=[yW bG (0+(a:Int)),yM Gx (4+(a:Int))]++T B (a+6):=lx trB [yW bG 0,yM Gx 4] (by kernel_rfl) (by decide) (by decide) B a
theorem lx_nts(B:List UInt8):∀ (n a:Nat),T (rp (ntB++[32]) n++B) a=ntT n a++T B (a+4*n)
 | 0,a=>rfl
 | n+1,a=>by
  show T ((ntB++[32]++rp (ntB++[32]) n)++B) a=(yW Zm (0+a)::ntT n ((a:Int)+4))++_
  rw[show (ntB++[32]++rp (ntB++[32]) n)++B=ntB++32::(rp (ntB++[32]) n++B) by simp,lx_nt,lx_nts B n (a+4)]
  rw[show a+4+4*n=a+4*(n+1) by omega]
  rfl
theorem ng_k{o:Int}(ho:o≠64)(q r:Int)(R:List Yd):∀ (k:Nat) (a:Int),P (k+15) .ng ⟨ntT k a++(yW bG q::yM Gx r::R),o⟩=some (.ok (ntF k a q,⟨yM Gx r::R,o⟩))
 | 0,a=>by
  have e:P 15 .ng ⟨yW bG q::yM Gx r::R,o⟩=some (.ok (ntF 0 a q,⟨yM Gx r::R,o+0-0⟩)):=by kernel_rfl
  rw[show o+0-0=o by omega] at e
  rw[z4z]
  exact e
 | k+1,a=>by
  have ih:=ng_k ho q r R k (a+4)
  rw[show k+1+15=(k+15)+1 by omega]
  unfold P
  rw[show ntT (k+1) a++(yW bG q::yM Gx r::R)=yW Zm (0+a)::(ntT k (a+4)++(yW bG q::yM Gx r::R)) from rfl,bind_ok (lookM_at rfl ho),if_pos (show AP ⟨2,Zm,0,0⟩=Zm by decide),bind_ok (takeM_at rfl ho)]
  show (P (k+15) .ng).bind _ ⟨ntT k (a+4)++(yW bG q::yM Gx r::R),o+0-0⟩=_
  rw[show o+0-0=o by omega,bind_ok ih]
  rfl
def ouN(k:Nat)(a q:Int):Fo:=.cons ⟨16,0+a,⟨#[]⟩,0,0⟩ (ntF k (a+4) q) .nil
theorem sq_nt{o:Int}(ho:o≠64)(k:Nat)(a q r:Int):Sq o (yW VH (0+a)::(ntT k (a+4)++[yW bG q,yM Gx r])) (ouN k a q):=by
 refine sq_one ho rfl (show AP ⟨2,VH,0,0⟩≠PK by decide) λR hR=>?_
 have hg:=ng_k ho q r R k (a+4)
 refine⟨k+15+1+1+1+1,?_⟩
 have e1:P (k+15+1+1) .ex ⟨ntT k (a+4)++(yW bG q::yM Gx r::R),o⟩=some (.ok (ntF k (a+4) q,⟨yM Gx r::R,o⟩)):=by
  have e2:P (k+15+1) .cj ⟨ntT k (a+4)++(yW bG q::yM Gx r::R),o⟩=some (.ok (ntF k (a+4) q,⟨yM Gx r::R,o⟩)):=by
   unfold P
   rw[bind_ok hg]
   show P (k+14+1) (.cjT _) _=_
   unfold P
   rw[bind_ok (lookM_at rfl ho),if_neg (show ¬AP ⟨3,Gx,0,0⟩=dS by decide)]
   rfl
  unfold P
  rw[bind_ok e2]
  show P (k+15+1) (.exT _) _=_
  unfold P
  rw[bind_ok (lookM_at rfl ho),if_neg (show ¬AP ⟨3,Gx,0,0⟩=bJ by decide)]
  rfl
 unfold P
 rw[show yW VH (0+a)::((ntT k (a+4)++[yW bG q,yM Gx r])++R)=yW VH (0+a)::(ntT k (a+4)++(yW bG q::yM Gx r::R)) by simp,bind_ok (lookM_at rfl ho),if_neg (show ¬AP ⟨2,VH,0,0⟩=Lh by decide),if_neg (show ¬AP ⟨2,VH,0,0⟩=Oq by decide),if_neg (show ¬AP ⟨2,VH,0,0⟩=Rv by decide),if_neg (show ¬AP ⟨2,VH,0,0⟩=Na by decide),if_neg (show ¬AP ⟨2,VH,0,0⟩=dP by decide),if_neg (show ¬AP ⟨2,VH,0,0⟩=aG by decide),if_neg (show ¬AP ⟨2,VH,0,0⟩=TY by decide),if_pos (show AP ⟨2,VH,0,0⟩=VH by decide)]
 unfold P
 rw[bind_ok (wantM_at rfl ho (show AP ⟨2,VH,0,0⟩=VH by decide))]
 show (P (k+15+1+1) .ex).bind _ ⟨ntT k (a+4)++(yW bG q::yM Gx r::R),o+0-0⟩=_
 rw[show o+0-0=o by omega,bind_ok e1,bind_ok (wantM_at rfl ho (show AP ⟨3,Gx,0,0⟩=Gx by decide))]
 show some (Except.ok (_,(⟨R,o+0-0⟩:Cs)))=_
 rw[show o+0-0=o by omega]
 rfl
def ntS(k:Nat):List UInt8:=fnB++32::(otB++32::(rp (ntB++[32]) k++(trB++32::[125])))
theorem nt_len(k:Nat)(hk:k<=280):(ntS k).length<=6000:=by
 have h:∀n,(rp (ntB++[32]) n).length=4*n:=by
  intro n
  induction n with
  | zero=>rfl
  | succ n ih=>simp only[rp,z0z,ih];simp[ntB];omega
 unfold ntS
 simp only[z0z,z14z,h]
 simp[fnB,otB,trB]
 omega
theorem nt_ends(k:Nat)(hk:k<=280):∃q s',Ends (ntS k) (.ok (Fo.one ⟨1,0,⟨#[]⟩,0,0⟩ (fnF (ouN k 9 q)),s')):=by
 have hl:=nt_len k hk
 obtain⟨s',n,hn⟩:=pg_of (sq_nt (o:=1) (by decide) k 9 (0+((13+4*k:Nat):Int)) (4+((13+4*k:Nat):Int))) ((13+4*k+6:Nat):Int) ((13+4*k+6+1:Nat):Int)
 refine⟨0+((13+4*k:Nat):Int),s',n,?_⟩
 rw[WI _ (by omega)]
 unfold ntS
 rw[lx_fn,z4z,lx_ot,lx_nts,lx_tr,lx_last]
 simp only[z5z,z19z,List.nil_append] at hn ⊢
 exact hn
theorem go_nt(mr:Int)(q:Int):∀ (k:Nat) (a:Int) (pm:List (ByteArray × Nat)) (L:List (Nd × Nat)) (E:List Nat) (R:List (Nat × Nat)) (b:Nat) (c:Sc),Df L E b (ntF k a q)->(c.opn.length+k<=256->Dq Am pm L E R mr (ntF k a q) b c=some (.inr c))/\(256<c.opn.length+k->∃y,Dq Am pm L E R mr (ntF k a q) b c=some (.inl (71,y)))
 | 0,a,pm,L,E,R,b,c,hL=>by
  have k0:=(b_kind hL 0 (p:=(⟨29,q,⟨#[]⟩,0,0⟩,0)) rfl).1
  rw[z12z] at k0
  obtain⟨tk,op,sc,lp,cs⟩:=c
  unfold ntF
  refine⟨λh=>?_,λh=>⟨q,?_⟩⟩
  ·have hn:¬256<op.length:=by simp only at h;omega
   simp[Dq,Ez,Gh,Ir,JE,LJ,OH,EO,EH,EZ,AJ,Fo.len,k0,hn]
  ·have hn:256<op.length:=by simp only at h;omega
   simp[Dq,Ez,hn]
 | k+1,a,pm,L,E,R,b,c,hL=>by
  have k0:=(b_kind hL 0 (p:=(⟨20,0+a,⟨#[]⟩,0,0⟩,(ntF k (a+4) q).len)) rfl).1
  rw[z12z] at k0
  have hk:Df L E (b+1) (ntF k (a+4) q):=hL.kids
  obtain⟨tk,op,sc,lp,cs⟩:=c
  obtain⟨h1,h2⟩:=go_nt mr q k (a+4) pm L E R (b+1) ⟨tk,(b,sc.length,lp.length)::op,sc,lp,cs⟩ hk
  simp only[z14z] at h1 h2
  show (op.length+(k+1)<=256->Dq Am pm L E R mr (.cons ⟨20,0+a,⟨#[]⟩,0,0⟩ (ntF k (a+4) q) .nil) b _=_)/\(256<op.length+(k+1)->∃y,Dq Am pm L E R mr (.cons ⟨20,0+a,⟨#[]⟩,0,0⟩ (ntF k (a+4) q) .nil) b _=_)
  refine⟨λh=>?_,λh=>?_⟩
  ·have hn:¬256<op.length:=by omega
   have e:=h1 (by omega)
   simp[Dq,Ez,Gh,Ir,JE,LJ,OH,EO,EH,EZ,k0,hn,e]
  ·by_cases hn:256<op.length
   ·exact⟨0+a,by simp[Dq,Ez,hn]⟩
   ·obtain⟨y,e⟩:=h2 (by omega)
    exact⟨y,by simp[Dq,Ez,Gh,Ir,JE,LJ,OH,EO,EH,EZ,hn,e]⟩
theorem nt_one(q:Int):∀ (k:Nat) (a:Int),(ntF k a q).len=1
 | 0,a=>rfl
 | k+1,a=>rfl
theorem nt_most(q:Int)(h:Nat):∀ (k:Nat) (a:Int) (κ:Int) (m:Nat),Dv κ 1 0=0->He κ 1 (ntF k a q) 0 h m<=max m (h+1)
 | 0,a,κ,m,hκ=>by
  show He κ 1 (.cons ⟨29,q,⟨#[]⟩,0,0⟩ .nil .nil) 0 h m<=_
  simp[He,hκ,Ee]
  try omega
 | k+1,a,κ,m,hκ=>by
  have ih:=nt_most q h k (a+4) 20 (h+1) (by decide)
  show He κ 1 (.cons ⟨20,0+a,⟨#[]⟩,0,0⟩ (ntF k (a+4) q) .nil) 0 h m<=_
  simp[He,hκ,Ee,nt_one] at ih ⊢
  omega
theorem nt_ck(mr:Int)(k:Nat)(a q:Int):(k+4<=256->Go3 mr (ouN k a q) (· = cI) (λc=>c.cst=[]))/\(256<k+4->∀pm L E R b c,Df L E b (ouN k a q)->c=cI->∃y,Dq Am pm L E R mr (ouN k a q) b c=some (.inl (71,y))):=by
 constructor
 ·rintro hn pm L E R b c hL rfl
  have k0:=(b_kind hL 0 (p:=(⟨16,0+a,⟨#[]⟩,0,0⟩,(ntF k (a+4) q).len)) rfl).1
  rw[z12z] at k0
  have hk:Df L E (b+1) (ntF k (a+4) q):=hL.kids
  have e:=(go_nt mr q k (a+4) pm L E R (b+1) ⟨[(k_f,1)],[(b,3,0),(2,2,0),(1,1,0),(0,1,0)],[[],[],[]],[],[]⟩ hk).1 (by simp;omega)
  refine⟨cI,?_,⟨rfl,rfl,_,rfl⟩,rfl⟩
  unfold ouN
  simp[Dq,Ez,Gh,Ir,JE,LJ,OH,EO,EH,EZ,k0,e]
 ·rintro hn pm L E R b c hL rfl
  have hk:Df L E (b+1) (ntF k (a+4) q):=hL.kids
  obtain⟨y,e⟩:=(go_nt mr q k (a+4) pm L E R (b+1) ⟨[(k_f,1)],[(b,3,0),(2,2,0),(1,1,0),(0,1,0)],[[],[],[]],[],[]⟩ hk).2 (by simp;omega)
  refine⟨y,?_⟩
  unfold ouN
  simp[Dq,Ez,Gh,Ir,JE,LJ,OH,EO,EH,EZ,e]
theorem nt_reg(k:Nat)(a q:Int):regB (ouN k a q)<=64:=by
 refine my_reg (d:=1) (λkids nth h m=>?_) (by decide)
 have:=nt_most q h k (a+4) 16 0 (by decide)
 unfold ouN
 simp[He,Dv,Ee,nt_one] at this ⊢
 omega
def pj:Nat->List UInt8
 | 0=>[]
 | i+1=>pj i++(if 0<i then [44,32] else [])++(112::dg i)
def ppS(n:Nat):List UInt8:=[102,110,32,102,40]++pj n++[41,32,123,32,125]
def pTst(n:Nat):Bool:=(ppS n).length<=6000&&(match isOk (P 300 (.pg .nil) ⟨Au (ppS n),0⟩) with
 | some (.cons _ u .nil)=>(match Ld 64 u with|some x=>x.1==(if 16<n then 81 else 0)|none=>false)
 | _=>false)
theorem pp_tab1:(z1z 36).all pTst=true:=by kernel_rfl
theorem pp_tab2:(z1z 12).all (λi=>pTst (i+36))=true:=by kernel_rfl
theorem pp_tab3:(z1z 12).all (λi=>pTst (i+48))=true:=by kernel_rfl
theorem pp_tab4:(z1z 11).all (λi=>pTst (i+60))=true:=by kernel_rfl
theorem pp_at{n:Nat}(h:n<=70):pTst n=true:=by
 by_cases h1:n<36
 ·exact z13z.1 pp_tab1 n (z7z.2 h1)
 by_cases h2:n<48
 ·have:=z13z.1 pp_tab2 (n-36) (z7z.2 (by omega))
  rwa [show n-36+36=n by omega] at this
 by_cases h3:n<60
 ·have:=z13z.1 pp_tab3 (n-48) (z7z.2 (by omega))
  rwa [show n-48+48=n by omega] at this
 ·have:=z13z.1 pp_tab4 (n-60) (z7z.2 (by omega))
  rwa [show n-60+60=n by omega] at this
theorem pp_rd{n:Nat}(h:n<=70):∃u x,Rd (ppS n) u/\(ppS n).length<=6000/\Ld 64 u=some x/\x.1=(if 16<n then 81 else 0):=by
 have ht:=pp_at h
 unfold pTst at ht
 simp only[Bool.and_eq_true,decide_eq_true_eq] at ht
 obtain⟨hl,ht⟩:=ht
 cases e:P 300 (.pg .nil) ⟨Au (ppS n),0⟩ with
 | none=>rw[e] at ht;cases ht
 | some r=>
  rw[e] at ht
  match r,ht,e with
  | .error _,ht,e=>cases ht
  | .ok (fo,s'),ht,e=>
   obtain⟨u,rfl,hR⟩:=eG hl ⟨300,e⟩
   change (match Ld 64 u with|some x=>x.1==(if 16<n then 81 else 0)|none=>false)=true at ht
   cases hc:Ld 64 u with
   | none=>rw[hc] at ht;cases ht
   | some x=>
    rw[hc] at ht
    exact⟨u,x,hR,hl,hc,by simpa using ht⟩
open Go.ChangeShapes Go.WideShapes Go.RowKit Go.Shelf Go.ChangeMaps Ck
def mkB(l:List UInt8):ByteArray:=⟨l.toArray⟩
theorem mkB_data(l:List UInt8):(mkB l).data.toList=l:=rfl
theorem mkB_size{l:List UInt8}(h:l.length<=60000):(mkB l).size<=1000000:=by
 rw[<- Ao,mkB_data]
 omega
theorem pcs_len{p:Nat->List UInt8}{d:Nat}(hp:∀i,(p i).length<=d):∀n i,(pcs p n i).length<=n*d
 | 0,i=>z8z _
 | n+1,i=>by
  have:=pcs_len hp n (i+1)
  have:=hp i
  rw[pcs,z0z,Nat.succ_mul]
  omega
def src1(n:Nat):List UInt8:=fnB++32::(pcs (λi=>ctB i++[32]) n 0++[125])
def src2(n:Nat):List UInt8:=fnB++32::(pcs (λi=>vrB i++[32]) n 0++[125])
def src3(k:Nat):List UInt8:=fnB++32::(whB++32::(pcs (λ_=>brB++[32]) k 0++[125,32,125]))
theorem len1{n:Nat}(hn:n<=70):(pcs (λi=>ctB i++[32]) n 0).length<=700/\(src1 n).length<=6000:=by
 have h:=pcs_len (p:=λi=>ctB i++[32]) (d:=10) (λi=>by have:=dg_len i;simp[ctB];omega) n 0
 have h2:n*10<=700:=by omega
 refine⟨by omega,?_⟩
 unfold src1
 simp only[z0z,z14z]
 simp[fnB]
 omega
theorem len2{n:Nat}(hn:n<=70):(pcs (λi=>vrB i++[32]) n 0).length<=1400/\(src2 n).length<=6000:=by
 have h:=pcs_len (p:=λi=>vrB i++[32]) (d:=20) (λi=>by have:=dg_len i;simp[vrB];omega) n 0
 have h2:n*20<=1400:=by omega
 refine⟨by omega,?_⟩
 unfold src2
 simp only[z0z,z14z]
 simp[fnB]
 omega
theorem rd_s{l:List UInt8}{u:Fo}(hl:l.length<=6000)(h:∃s',Ends l (.ok (Fo.one ⟨1,0,⟨#[]⟩,0,0⟩ u,s'))):Rd (mkB l).data.toList u:=by
 obtain⟨s',h⟩:=h
 obtain⟨u',hu,hR⟩:=eG hl h
 cases hu
 exact hR
theorem ld1{n:Nat}(hn:n<=70):(n<=64->∃L,Td (mkB (src1 n)) L)/\(64<n->RY (mkB (src1 n)) 84 3):=by
 obtain⟨f,hf,he⟩:=gd_ends (gs_ct hn) (by have:=(len1 hn).1;omega)
 have hR:=rd_s (len1 hn).2 he
 obtain⟨c',⟨_,_,hc⟩,hk⟩:=(fn_ck 64 f (A:=A1 0) ⟨by simp,by simp,rfl⟩).1 _ (hf.1 64)
 have hr:=my_reg hf.2 (by decide)
 rw[hc,z4z] at hk
 have hlen:(kl n).length=n:=by simp[kl]
 rw[hlen,if_neg (show ¬ (64:Int)<(regB f:Nat) by omega)] at hk
 refine⟨λh=>⟨_,hR.good (mkB_size (by have:=(len1 hn).2;omega)) (y:=0) ?_⟩,λh=>hR.bad (mkB_size (by have:=(len1 hn).2;omega)) (by decide) ?_⟩
 ·show Jf Am 64 _=_
  rw[hk,if_neg (by omega)]
 ·show Jf Am 64 _=_
  rw[hk,if_pos h]
theorem ld2{n:Nat}(hn:n<=70):(n<=64->∃L,0<L.length/\Td (mkB (src2 n)) L/\∀ (gl lc:Nat) (w:World),Tabs w->MarksIn w->Cw w (.slice (some ⟨gl,0,none⟩) L.length lc) L->Calls prog 8 #[(.slice (some ⟨gl,0,none⟩) L.length lc),.string k_f] w λe w'=>e=.returned (.int .i64 n)/\Below w.heap.size w w')/\(64<n->RY (mkB (src2 n)) 83 3):=by
 obtain⟨f,hf,he⟩:=gd_ends (gs_vr hn) (by have:=(len2 hn).1;omega)
 have hR:=rd_s (len2 hn).2 he
 have hr:=vr_reg hf
 have hI:A2 0 cI:=⟨by simp,rfl,_,_,rfl,λj _ _=>rfl⟩
 have hk:∀mr,Jf Am mr (.cons ⟨1,0,⟨#[]⟩,0,0⟩ (fnF f) .nil)=some (if mr<(n:Nat) then (83,3) else (0,0)):=by
  intro mr
  obtain⟨c',⟨_,hc,_⟩,hk⟩:=(fn_ck mr f hI).1 _ (hf.1 mr)
  rw[hk,hc,if_neg (by simp),hr]
 refine⟨λh=>⟨_,by unfold JV;simp[AJ],hR.good (mkB_size (by have:=(len2 hn).2;omega)) (y:=0) ?_,λgl lc w ht hm hN=>?_⟩,λh=>hR.bad (mkB_size (by have:=(len2 hn).2;omega)) (by decide) ?_⟩
 ·show Jf Am 64 _=_
  rw[hk,if_neg (by omega)]
 ·have:=ABk ⟨1,0,⟨#[]⟩,0,0⟩ ⟨3,3+0,k_f,0,0⟩ (.cons ⟨5,7+0,⟨#[]⟩,0,0⟩ f .nil) .nil rfl hR.wt rfl _ rfl hR.few hR.pr 0 (by have:=hk 9223372036854775807;rw[if_neg (by omega)] at this;exact this) gl lc w ht hm hN
  rw[show Iq ⟨3,3+0,k_f,0,0⟩ (.cons ⟨5,7+0,⟨#[]⟩,0,0⟩ f .nil)=n from hr] at this
  exact this
 ·show Jf Am 64 _=_
  rw[hk,if_pos (by omega)]
theorem len3(k:Nat)(hk:k<=2000):(src3 k).length<=60000:=by
 have h:=pcs_len (p:=λ_=>brB++[32]) (d:=7) (λi=>by simp[brB]) k 0
 have h2:k*7<=14000:=by omega
 unfold src3
 simp only[z0z,z14z]
 simp[fnB,whB]
 omega
theorem ld3{k:Nat}(hk:k<=2000):(k+3<=1000->∃L,Td (mkB (src3 k)) L)/\(1000<k+3->RY (mkB (src3 k)) 85 9):=by
 obtain⟨f,hf,he⟩:=wh_ends k hk
 have hR:Rd (mkB (src3 k)).data.toList _:=wh_rd hk hf he
 have hs:=mkB_size (len3 k hk)
 have hg:=go_wh 64 hf 9
 have hr:=wh_reg hf 9
 refine⟨λh=>⟨_,hR.good hs (y:=0) ?_⟩,λh=>hR.bad hs (by decide) ?_⟩
 ·obtain⟨c',hc,hk⟩:=(fn_ck 64 (whF 9 f) (A:=(· = cI)) rfl).1 _ (hg.1 h)
  show Jf Am 64 _=_
  rw[hk,hc,if_neg (by simp),if_neg (by omega)]
 ·have:=(fn_ck 64 (whF 9 f) (A:=(· = cI)) rfl).2 _ (hg.2 h)
  exact this
theorem ld4{n:Nat}(hn:n<=70):(n<=16->∃L,Td (mkB (ppS n)) L)/\(16<n->∃y,RY (mkB (ppS n)) 81 y):=by
 obtain⟨u,x,hR,hl,hc,hx⟩:=pp_rd hn
 have hs:=mkB_size (l:=ppS n) (by omega)
 refine⟨λh=>⟨_,Rd.good (s:=mkB (ppS n)) hR hs (y:=x.2) ?_⟩,λh=>⟨x.2,Rd.bad (s:=mkB (ppS n)) hR hs (by decide) ?_⟩⟩
 ·rw[hc,if_neg (by omega)] at *
  rw[<- hx]
 ·rw[if_pos h] at hx
  rw[hc,<- hx]
theorem ld5{k:Nat}(hk:k<=280):(k+4<=256->∃L,Td (mkB (ntS k)) L)/\(256<k+4->∃y,RY (mkB (ntS k)) 71 y):=by
 obtain⟨q,he⟩:=nt_ends k hk
 have hl:=nt_len k hk
 have hR:=rd_s hl he
 have hs:=mkB_size (l:=ntS k) (by omega)
 have hg:=nt_ck 64 k 9 q
 have hr:=nt_reg k 9 q
 refine⟨λh=>⟨_,hR.good hs (y:=0) ?_⟩,λh=>?_⟩
 ·obtain⟨c',hc,hk⟩:=(fn_ck 64 (ouN k 9 q) (A:=(· = cI)) rfl).1 _ (hg.1 h)
  show Jf Am 64 _=_
  rw[hk,hc,if_neg (by simp),if_neg (by omega)]
 ·obtain⟨y,hy⟩:=fn_bad 64 (ouN k 9 q) (hg.2 h)
  exact⟨y,hR.bad hs (by decide) hy⟩
end Go.Proofs.YtjplieobnknnpaaGreatDoor.W.Tr
namespace Go.Proofs.YtjplieobnknnpaaGreatDoor.W.Cs
open Go.ChangeShapes Go.WideShapes Go.RowKit Go.Shelf
set_option linter.unusedVariables false
set_option linter.unusedSimpArgs false
def Hd(p:Prop):Prop:=p
theorem hd{p:Prop}(h:p):Hd p:=h
theorem Hd.out{p:Prop}(h:Hd p):p:=h
theorem wr6(n:Int)(h0:0<=n)(h:n<=1000000):wrap64 n=n:=by unfold wrap64;omega
theorem wri(n:Int)(h0:0<=n)(h:n<=1000000):z9z.wrap n=n:=by rw[IntKind.wrap_i64];omega
def Nds(w:World)(g nn:Nat)(ki:Nat->Int)(tx:Nat->ByteArray):Prop:=g<w.heap.size/\∀i,i<nn->w.cell? ⟨g,i*6,none⟩=some (.int .i64 (ki i))/\w.cell? ⟨g,i*6+3,none⟩=some (.string (tx i))
theorem Nds.below{w w':World}{g nn:Nat}{ki:Nat->Int}{tx:Nat->ByteArray}(h:Nds w g nn ki tx)(hB:Below w.heap.size w w'):Nds w' g nn ki tx:=⟨z22z h.1 hB.size,λi hi=>⟨(hB.cell (p:=⟨g,_,none⟩) h.1).trans (h.2 i hi).1,(hB.cell (p:=⟨g,_,none⟩) h.1).trans (h.2 i hi).2⟩⟩
def Oz(w:World)(o:Option Addr)(xs:List Int):Prop:=∀ (j:Nat) (x:Int),xs[j]? = some x->∃g,o=some ⟨g,0,none⟩/\g<w.heap.size/\w.cell? ⟨g,j,none⟩=some (.int .i64 x)
theorem Oz.below{w w':World}{o:Option Addr}{xs:List Int}(h:Oz w o xs)(hB:Below w.heap.size w w'):Oz w' o xs:=λj x hx=>by
 obtain⟨g,e,h1,h2⟩:=h j x hx
 exact⟨g,e,z22z h1 hB.size,(hB.cell (p:=⟨g,_,none⟩) h1).trans h2⟩
def five(l:List UInt8):Bool:=l==[38]||l==[124]||l==[94]||l==[60,60]||l==[62,62]
def opC(c:Nat):Prop:=c=43\/c=45\/c=42\/c=47\/c=37\/c=60\/c=62\/c=61\/c=33
section
variable (s:ByteArray) (hs:s.size<=6000) (nn:Nat) (hnn:nn<=100000) (ki:Nat->Int) (tx:Nat->ByteArray) (cnt:Nat->Nat) (hc0:cnt 0=0) (hc1:∀ i,i < nn->cnt (i + 1)=cnt i + (if (ki i == 21)=true/\five (tx i).toList=false then 1 else 0)) (hcb:∀ i,cnt i<=i)
 (xs:List Int) (hxl:xs.length<=100000) (hfin:cnt nn=xs.length)
 (hxs:∀ (j:Nat) (x:Int),xs[j]? = some x->∃k:Nat,x=(k:Int)/\∃h:k<s.size,opC s[k].toNat) (hrise:∀ (i:Nat) (a b:Int),xs[i]? = some a->xs[i+1]? = some b->a<b)
 (w:World) (J:World->Nat->Nat->Prop) (hJ:∀w1 g cap,J w1 g cap->Nds w1 g nn ki tx) (hJb:∀w1 w2 g cap,J w1 g cap->Below w1.heap.size w1 w2->J w2 g cap)
 (cA:Calls prog 7 #[.string s] w λe w'=>∃g cap,e=.returned (.tuple #[.slice (some ⟨g,0,none⟩) nn cap,.agg #[.int .i64 0,.int .i64 0]])/\Below w.heap.size w w'/\J w' g cap)
 (cS:∀w1 g cap,Below w.heap.size w w1->J w1 g cap->Calls prog 18 #[.slice (some ⟨g,0,none⟩) nn cap] w1 λe w'=>∃o cp,e=.returned (.slice o xs.length cp)/\Below w1.heap.size w1 w'/\Oz w' o xs)
 (cW:∀w1,Below w.heap.size w w1->Calls prog 10 #[] w1 λe w'=>e=.returned (.bool true)/\Below w1.heap.size w1 w')
include hs hnn hc0 hc1 hcb hxl hfin hxs hrise hJ hJb cA cS cW
end
theorem hsx{W:World}{b:Nat}{c:List Value}{t:TypeId}(hb:W.heap[b]? = some (.cells c.toArray t (0,0)))(j:Nat)(u:Value):(W.setCell ⟨b,j,none⟩ u).heap[b]? = some (.cells (c.set j u).toArray t (0,0)):=by
 simp only[z10z,Array.getElem?_modify]
 rw[hb]
 simp
theorem set_pair{w a:World}{g B:Nat}{z0 z1:Value}{t:TypeId}(hg:w.heap[g]? = some (.cells #[z0,z1] t (0,0)))(hB:Below B a w)(hb:B<=g)(v0 v1:Value) :
  ((w.setCell ⟨g,0,none⟩ v0).setCell ⟨g,1,none⟩ v1).heap[g]? = some (.cells #[v0,v1] t (0,0))/\Below B a ((w.setCell ⟨g,0,none⟩ v0).setCell ⟨g,1,none⟩ v1):=by
 have h0:w.heap[g]? = some (.cells [z0,z1].toArray t (0,0)):=hg
 exact⟨hsx (hsx h0 0 v0) 1 v1,(hB.setCell (p:=⟨g,0,none⟩) hb v0).setCell (p:=⟨g,1,none⟩) hb v1⟩
def dq(k:Nat):List UInt8:=if k=0 then [] else if k<10 then [UInt8.ofNat (48+k)] else [UInt8.ofNat (48+k/10),UInt8.ofNat (48+k%10)]
def dw(k:Nat):List UInt8:=if k=0 then [48] else dq k
theorem dq_tab:(z1z 100).all (λk=>k==0||dq k==dq (k/10)++[UInt8.ofNat (48+k%10)])=true:=by kernel_rfl
theorem dq_step{k:Nat}(h0:k≠0)(h:k<100):dq k=dq (k/10)++[UInt8.ofNat (48+k%10)]:=by
 have:=z13z.1 dq_tab k (z7z.2 h)
 simpa [h0] using this
theorem dq_len(k:Nat):(dq k).length<=2:=by
 unfold dq
 split
 ·simp
 ·split <;> simp
theorem dw_len(k:Nat):(dw k).length<=2:=by
 unfold dw
 split
 ·simp
 ·exact dq_len k
theorem sz_of{u:ByteArray}{l:List UInt8}(h:u.data.toList=l):u.size=l.length:=by
 rw[<- h,Array.length_toList]
 rfl
theorem digits_c(n:Nat)(hn:n<100)(w:World):Calls prog 6 #[.int .i64 n] w λe w'=>∃u,e=.returned (.string u)/\u.data.toList=dw n/\Below w.heap.size w w':=by
 by_cases h0:n=0
 ·subst h0
  go_enter func6,ntmps6
  go_wp2
  go_ret
  exact⟨_,rfl,rfl,z6z _ _⟩
 have j1:(((n:Nat):Int)==0)=false:=by simp;omega
 have hw:dw n=dq n:=by unfold dw;rw[if_neg h0]
 rw[hw]
 clear hw h0
 go_enter func6,ntmps6
 go_upto_region 4 with fail
 clear j1
 go_loopw [0,3] (λkk tt wr=>∃ (k:Nat) (u:ByteArray),kk=.int .i64 (k:Nat)/\k<100/\tt=.string u/\dq k++u.data.toList=dq n/\Below w.heap.size w wr) (λkk _ _=>(intOf kk).toNat)
 case atStart=>exact⟨n,_,rfl,hn,rfl,by simp,z6z _ _⟩
 case round=>
  obtain⟨k,u,rfl,hk,rfl,hu,hB⟩:=hrel
  have hus:u.size<=2:=by
   have e:=congrArg List.length hu
   have:=dq_len n
   rw[z0z] at e
   rw[sz_of rfl]
   omega
  by_cases hk0:k=0
  ·subst hk0
   go_wp2
   go_ret
   exact⟨u,rfl,by simpa [dq] using hu,hB⟩
  ·have m1:((k:Nat):Int)>0:=by omega
   obtain⟨ch,hch⟩:∃ch:UInt8,ch=UInt8.ofNat (48+k%10):=⟨_,rfl⟩
   have hcn:(ch.toNat:Int)=48+(k:Int)%10:=by
    rw[hch,UInt8.toNat_ofNat']
    omega
   have g0:=z23z wr (.cells #[.int .u8 (48+(k:Int)%10)] 5)
   have e0:=cell_of_row _ _ 0 _ _ _ g0
   have hcv:=run_convert_bytes_back (P:=prog) (wr.alloc (.cells #[.int .u8 (48+(k:Int)%10)] 5)) 36 9 5 ⟨wr.heap.size,0,none⟩ 1 [ch] underlying36 underlying5 underlying9 (λj hj=>by
    have hj0:j=0:=by simpa using hj
    subst hj0
    rw[show ((⟨wr.heap.size,0,none⟩:Addr).add 0)=⟨wr.heap.size,0,none⟩ by unfold Addr.add;split <;> simp_all,e0]
    simp[hcn])
   have b0:=hd (hB.alloc hB.size (.cells #[.int .u8 (48+(k:Int)%10)] 5))
   have HU:=hd hu
   have HK:=hd hk
   have HC:=hd hch
   have HK0:=hd hk0
   have z1:¬9223372036854775807<1+u.size:=by omega
   have HWK:=hd (show wrap64 ((k:Int)/10)=((k/10:Nat):Int) by rw[wr6 _ (by omega) (by omega)];omega)
   rw[show ([ch].length)=1 from rfl] at hcv
   clear hB hu hk hch hus g0 e0 hcn hk0
   go_wp2
   exact⟨⟨k/10,_,by rw[HWK.out],by have:=HK.out;omega,rfl,by
    have e:=dq_step HK0.out HK.out
    rw[<- HC.out] at e
    simp only[ByteArray.data_append,Array.toList_append]
    rw[<- HU.out,e]
    simp,b0.out⟩,by rw[HWK.out];show (((k/10:Nat):Int)).toNat<((k:Int)).toNat;have:=HK0.out;omega⟩
def rpl(l:List UInt8):Nat->List UInt8
 | 0=>[]
 | n+1=>rpl l n++l
theorem rpl_len(l:List UInt8):∀n,(rpl l n).length=n*l.length
 | 0=>by simp[rpl]
 | n+1=>by rw[rpl,z0z,rpl_len l n,Nat.succ_mul]
theorem ZQ:(prog.info? 5).map (λi=>(i.zero,i.size,i.bytes))=some (some (.int .u8 0),1,1):=by kernel_rfl
def bv(l:List UInt8):List Value:=l.map λb=>Value.int .u8 b.toNat
theorem textG_c(s:ByteArray)(l:List UInt8)(hl:s.data.toList=l)(z:Nat)(hz:s.size=z)(hz0:z≠0)(hz9:z<=10)(n:Nat)(hn:n<=2000)(w:World):Calls prog 9 #[.string s,.int .i64 n] w λe w'=>∃u,e=.returned (.string u)/\u.data.toList=rpl l n/\Below w.heap.size w w':=by
 obtain⟨i0,hi,hz0',hz1,hz2⟩:∃i0,prog.info? 5=some i0/\i0.zero=some (.int .u8 0)/\i0.size=1/\i0.bytes=1:=by
  obtain⟨i0,h1,h2⟩:=Option.map_eq_some_iff.1 ZQ
  simp only[Prod.mk.injEq] at h2
  exact⟨i0,h1,h2.1,h2.2.1,h2.2.2⟩
 have hzl:l.length=z:=by rw[<- hl,<- sz_of rfl,hz]
 have HL:=hd (z2z hl (z2z hz hzl))
 clear hl hz
 go_enter func9,ntmps9
 go_upto_region 2 with fail
 have g0:=z23z w (.cells #[] 5)
 have b0:Below w.heap.size w (w.alloc (.cells #[] 5)):=(z6z _ w).alloc (z3z _) _
 have ow:(w.alloc (.cells #[] 5)).ownsRow w.heap.size 5 1 (.slice (some ⟨w.heap.size,0,none⟩) 0 0) 0 (bv (rpl l 0)):=⟨rfl,.inr ⟨w.heap.size,0,#[],rfl,z3z _,g0,z3z _,z8z _,rfl,rfl⟩⟩
 go_wp2
 go_loopw [5,6] (λbb ii wr=>∃i c0:Nat,ii=.int .i64 (i:Nat)/\i<=n/\c0=i*z/\wr.ownsRow w.heap.size 5 1 bb c0 (bv (rpl l i))/\Below w.heap.size w wr/\∃g c,bb=.slice (some ⟨g,0,none⟩) c0 c) (λ_ ii _=>n-(intOf ii).toNat)
 case atStart=>exact⟨0,0,rfl,z8z _,by simp,ow,b0,_,_,rfl⟩
 case round=>
  obtain⟨i,c0,rfl,hi1,hc0,hown,hB,g,c,rfl⟩:=hrel
  have HB:=hd hB
  have HO:=hd hown
  clear hB ow b0 g0
  by_cases hin:i<n
  ·have m1:((i:Nat):Int)<n:=by omega
   have HM:=hd (show n-(intOf (.int .i64 ((i:Int)+1))).toNat<n-(intOf (.int .i64 (i:Int))).toNat by show n-((i:Int)+1).toNat<n-((i:Int)).toNat;omega)
   have wk:z9z.wrap ((i:Int)+1)=(i:Int)+1:=wri _ (by omega) (by omega)
   have wk':wrap64 ((i:Int)+1)=(i:Int)+1:=wr6 _ (by omega) (by omega)
   have hle:i*z<=2000*10:=Nat.mul_le_mul (by omega) hz9
   have hc9:c0+s.size<=30000:=by rw[HL.out.2.1];omega
   have HIN:=hd (z2z hin (z2z hc0 hc9))
   clear hin hown hle hc9 hc0
   go_wp2_with (at_builtin;refine Lib.wpList_append_own_string _ rfl _ _ 36 9 rfl w.heap.size 5 i0 underlying36 underlying9 hi hz0' hz1 hz2 _ _ _ rfl HO.out s rfl ?c3 ?c4 ?c5 ?_)
   case c3=>have:=HIN.out.2.2;unfold maxLen;omega
   case c4=>have:=HIN.out.2.2;omega
   case c5=>exact HB.out.size
   intro v' w2 hown' hgrow hnil
   have hb2:=hd (HB.out.grown hgrow HB.out.size (λk e=>by cases e;exact(HO.out.lt _ rfl).1))
   have ho2:=hd hown'
   obtain⟨g',c',rfl⟩:∃g' c',v'=.slice (some ⟨g',0,none⟩) (c0+s.size) c':=by
    rcases hown'.2 with⟨_,h0⟩|⟨g',c',cur,hv,_⟩
    ·exact absurd h0 (by have:=HL.out.2.1;omega)
    ·exact⟨g',c',hv⟩
   clear hown' hgrow hnil
   go_wp2
   exact⟨⟨i+1,_,rfl,HIN.out.1,by rw[HIN.out.2.1,HL.out.2.1,Nat.succ_mul],by have h:=ho2.out;unfold bv;rw[show rpl l (i+1)=rpl l i++l from rfl,z18z];unfold bv Lib.strCells at h;rw[HL.out.1] at h;exact h,hb2.out,g',c',rfl⟩,HM.out⟩
  ·obtain rfl:i=n:=by omega
   have hcv:=run_convert_bytes_back (P:=prog) wr 36 9 5 ⟨g,0,none⟩ c (rpl l i) underlying36 underlying5 underlying9 (λj hj=>by
    refine hown.cells (g:=g) rfl j _ ?_
    unfold bv
    rw[List.getElem?_map,z26z hj]
    rfl)
   rw[rpl_len,HL.out.2.2,<- hc0] at hcv
   clear hown hi1 hc0
   go_wp2
   go_ret
   exact⟨_,rfl,rfl,HB.out⟩
def t1:Nat->List UInt8
 | 0=>[102,110,32,102,40,41,32,123,32]
 | i+1=>t1 i++([111,117,116,32]++dw i++[59,32])
def t2:Nat->List UInt8
 | 0=>[102,110,32,102,40,41,32,123,32]
 | i+1=>t2 i++([108,101,116,32,118]++dw i++[32,61,32,110,105,108,59,32])
def t4:Nat->List UInt8
 | 0=>[102,110,32,102,40]
 | i+1=>t4 i++(if 0<i then [44,32] else [])++([112]++dw i)
theorem t1_len:∀i,(t1 i).length<=9+8*i
 | 0=>z3z _
 | i+1=>by have:=t1_len i;have:=dw_len i;simp only[t1,z0z];simp;omega
theorem t2_len:∀i,(t2 i).length<=9+15*i
 | 0=>z3z _
 | i+1=>by have:=t2_len i;have:=dw_len i;simp only[t2,z0z];simp;omega
theorem t4_len:∀i,(t4 i).length<=5+5*i
 | 0=>z3z _
 | i+1=>by have:=t4_len i;have:=dw_len i;simp only[t4,z0z];split <;> simp <;> omega
theorem bo_out(N:Int)(h:N<0\/70<N)(w:World):Calls prog 3 #[.int .i64 N] w λe w'=>e=.returned (.bool true)/\Below w.heap.size w w':=by
 by_cases j1:N<0
 ·clear h
  go_enter func3,ntmps3
  go_wp2
  go_ret
  exact⟨rfl,z6z _ _⟩
 ·have j2:N>70:=by omega
  clear h
  go_enter func3,ntmps3
  go_wp2
  go_ret
  exact⟨rfl,z6z _ _⟩
theorem al_new{w W:World}{ob:Obj}(h:w.alloc ob=W):W.heap[w.heap.size]? = some ob/\Below w.heap.size w W:=by
 subst h
 exact⟨z23z w ob,(z6z _ w).alloc (z3z _) _⟩
theorem st_new{w W a:World}{g B:Nat}{v0 v1 z0 z1:Value}{t:TypeId}(h:(w.setCell ⟨g,0,none⟩ v0).setCell ⟨g,1,none⟩ v1=W)(hg:w.heap[g]? = some (.cells #[z0,z1] t (0,0)))(hB:Below B a w)(hb:B<=g):W.heap[g]? = some (.cells #[v0,v1] t (0,0))/\Below B a W:=by
 subst h
 exact set_pair hg hB hb v0 v1
theorem st_newJ{w W:World}{g:Nat}{r v0 v1 z0 z1:Value}{t:TypeId}{J:World->Value->Prop}{p:Prop}(h:(w.setCell ⟨g,0,none⟩ v0).setCell ⟨g,1,none⟩ v1=W)(hg:w.heap[g]? = some (.cells #[z0,z1] t (0,0)))(hJ:∀ (w1:World) (r:Value) (k:Nat) (z0 z1 v0 v1:Value) (t:TypeId),w1.heap[k]? = some (.cells #[z0,z1] t (0,0))->J w1 r->J ((w1.setCell ⟨k,0,none⟩ v0).setCell ⟨k,1,none⟩ v1) r)(hj:p->J w r):p->J W r:=by
 subst h
 exact λq=>hJ _ _ _ _ _ _ _ _ hg (hj q)
section
variable (n:Nat) (hn:n<=70) (w:World) (x1 y1 x2 y2 x3 y3 x4 y4 x5 y5:Int) (J:World->Value->Prop) (hJ:∀ (w1:World) (r:Value) (k:Nat) (z0 z1 v0 v1:Value) (t:TypeId),w1.heap[k]? = some (.cells #[z0,z1] t (0,0))->J w1 r->J ((w1.setCell ⟨k,0,none⟩ v0).setCell ⟨k,1,none⟩ v1) r)
 (hx1:n<=64->x1=0) (hx1':64<n->x1=84/\y1=3) (hx2:n<=64->x2=0) (hx2':64<n->x2=83) (hx3:n<=66->x3=0) (hx3':66<n->x3=85/\y3=9) (hx4:n<=16->x4=0) (hx4':16<n->x4=81) (hx5:n<=63->x5=0) (hx5':63<n->x5=71)
 (c1:∀X:ByteArray,X.data.toList=t1 n++[125]->∀w1,Below w.heap.size w w1->Calls prog 7 #[.string X] w1 λe w'=>∃r,e=.returned (.tuple #[r,.agg #[.int .i64 x1,.int .i64 y1]])/\Below w1.heap.size w1 w')
 (c2:∀X:ByteArray,X.data.toList=t2 n++[125]->∀w1,Below w.heap.size w w1->Calls prog 7 #[.string X] w1 λe w'=>∃r,e=.returned (.tuple #[r,.agg #[.int .i64 x2,.int .i64 y2]])/\Below w1.heap.size w1 w'/\(n<=64->J w' r))
 (cR:n<=64->∀w1 r,Below w.heap.size w w1->J w1 r->Calls prog 8 #[r,.string ⟨#[102]⟩] w1 λe w'=>e=.returned (.int .i64 n)/\Below w1.heap.size w1 w')
 (c3:∀X:ByteArray,X.data.toList=([102,110,32,102,40,41,32,123,32,119,104,105,108,101,32,116,114,117,101,32,123,32]++rpl [98,114,101,97,107,59,32] (n*15))++[125,32,125]->∀w1,Below w.heap.size w w1->Calls prog 7 #[.string X] w1 λe w'=>∃r,e=.returned (.tuple #[r,.agg #[.int .i64 x3,.int .i64 y3]])/\Below w1.heap.size w1 w')
 (c4:∀X:ByteArray,X.data.toList=t4 n++[41,32,123,32,125]->∀w1,Below w.heap.size w w1->Calls prog 7 #[.string X] w1 λe w'=>∃r,e=.returned (.tuple #[r,.agg #[.int .i64 x4,.int .i64 y4]])/\Below w1.heap.size w1 w')
 (c5:∀X:ByteArray,X.data.toList=([102,110,32,102,40,41,32,123,32,111,117,116,32]++rpl [110,111,116,32] (4*n))++[116,114,117,101,59,32,125]->∀w1,Below w.heap.size w w1->Calls prog 7 #[.string X] w1 λe w'=>∃r,e=.returned (.tuple #[r,.agg #[.int .i64 x5,.int .i64 y5]])/\Below w1.heap.size w1 w')
 (cW:∀w1,Below w.heap.size w w1->Calls prog 10 #[] w1 λe w'=>e=.returned (.bool true)/\Below w1.heap.size w1 w')
include hn hJ hx1 hx1' hx2 hx2' hx3 hx3' hx4 hx4' hx5 hx5' c1 c2 cR c3 c4 c5 cW
theorem bo_in:Calls prog 3 #[.int .i64 n] w λe w'=>e=.returned (.bool true)/\Below w.heap.size w w':=by
 have j1:¬ (n:Int)<0:=by omega
 have j2:¬ (n:Int)>70:=by omega
 have HN:=hd hn
 have HX1:=hd (z2z hx1 hx1')
 have HX2:=hd (z2z hx2 hx2')
 have HX3:=hd (z2z hx3 hx3')
 have HX4:=hd (z2z hx4 hx4')
 have HX5:=hd (z2z hx5 hx5')
 have HJ:=hd hJ
 have C1:=hd c1
 have C2:=hd c2
 have CR:=hd cR
 have C3:=hd c3
 have C4:=hd c4
 have C5:=hd c5
 have CW:=hd cW
 clear hn hx1 hx1' hx2 hx2' hx3 hx3' hx4 hx4' hx5 hx5' hJ c1 c2 cR c3 c4 c5 cW
 go_enter func3,ntmps3
 go_upto_region 5 with fail
 clear j1 j2
 go_loopw [3,4] (λtt ii wr=>∃ (i:Nat) (u:ByteArray),ii=.int .i64 (i:Nat)/\i<=n/\tt=.string u/\u.data.toList=t1 i/\Below w.heap.size w wr) (λ_ ii _=>n-(intOf ii).toNat)
 case atStart=>exact⟨0,_,rfl,z8z _,rfl,rfl,z6z _ _⟩
 case round=>
  obtain⟨i,u,rfl,hi,rfl,hu,hB⟩:=hrel
  have hn:=HN.out
  have hus:u.size<=9+8*i:=by rw[sz_of hu];exact t1_len i
  have HB:=hd hB
  by_cases hin:i<n
  ·have m1:((i:Nat):Int)<n:=by omega
   have HM:=hd (show n-(intOf (.int .i64 ((i:Int)+1))).toNat<n-(intOf (.int .i64 (i:Int))).toNat by show n-((i:Int)+1).toNat<n-((i:Int)).toNat;omega)
   have wk:z9z.wrap ((i:Int)+1)=(i:Int)+1:=wri _ (by omega) (by omega)
   have wk':wrap64 ((i:Int)+1)=(i:Int)+1:=wr6 _ (by omega) (by omega)
   have cd:=digits_c i (by omega) wr
   have HIN:=hd hin
   have HU:=hd (z2z hu (show u.size<=1000 by omega))
   clear hin hu hn hi hus hB
   go_wp2_with (go_at_call 6;(with_reducible refine cd.mono ?_);rintro e w2 ⟨d,rfl,hdl,hB2⟩;(have hds:d.size<=2:=by rw[sz_of hdl];exact dw_len i);(have z1:¬9223372036854775807<4+d.size:=by omega);(have z2:¬9223372036854775807<4+d.size+2:=by omega);(have z3:¬9223372036854775807<u.size+(4+d.size+2):=by have:=HU.out.2;omega);(have HD:=hd hdl);(have HB2:=hd (HB.out.trans (hB2.mono HB.out.size)));clear hdl hds hB2 cd)
   exact⟨⟨i+1,_,rfl,HIN.out,rfl,by simp[ByteArray.data_append,HU.out.1,HD.out,t1],HB2.out⟩,HM.out⟩
  ·obtain rfl:n=i:=by omega
   clear hin hi hB
   have REG:n<=16\/(16<n/\n<=63)\/n=64\/(64<n/\n<=66)\/66<n:=by omega
   rcases REG with h|h|h|h|h
   all_goals
    (first|(have a:=HX1.out.1 (by omega);subst a)|(obtain⟨a,b⟩:=HX1.out.2 (by omega);subst a b))
    (first|(have a:=HX2.out.1 (by omega);subst a)|(have a:=HX2.out.2 (by omega);subst a))
    (first|(have a:=HX3.out.1 (by omega);subst a)|(obtain⟨a,b⟩:=HX3.out.2 (by omega);subst a b))
    (first|(have a:=HX4.out.1 (by omega);subst a)|(have a:=HX4.out.2 (by omega);subst a))
    (first|(have a:=HX5.out.1 (by omega);subst a)|(have a:=HX5.out.2 (by omega);subst a))
    (first|have G64:=hd (show ¬ ((n:Nat):Int)>64 by omega)|have G64:=hd (show ((n:Nat):Int)>64 by omega))
    (first|have G66:=hd (show ¬ ((n*15:Nat):Int)+3>1000 by omega)|have G66:=hd (show ((n*15:Nat):Int)+3>1000 by omega))
    (first|have G16:=hd (show ¬ ((n:Nat):Int)>16 by omega)|have G16:=hd (show ((n:Nat):Int)>16 by omega))
    (first|have G63:=hd (show ¬ ((4*n:Nat):Int)+4>256 by omega)|have G63:=hd (show ((4*n:Nat):Int)+4>256 by omega))
    have REGH:=hd h
    clear HX1 HX2 HX3 HX4 HX5 h
    have z1:¬9223372036854775807<u.size+1:=by omega
    have cl:=C1.out (u++⟨#[125]⟩) (by simp[ByteArray.data_append,hu]) wr HB.out
    clear C1 hu hus hn
    go_upto_region 9 with(go_at_call 7;(with_reducible refine cl.mono ?_);rintro e w1 ⟨r,rfl,hB1⟩;(have HB1:=hd (HB.out.trans (hB1.mono HB.out.size)));clear hB1 cl)
    clear HB z1
    generalize hW1:World.alloc w1 _=W1 at *
    obtain⟨g1,b1⟩:=al_new hW1
    have L6:=hd HB1.out.size
    have HB2:=hd (HB1.out.trans (b1.mono HB1.out.size))
    have F6:=hd g1
    have e1:=λj=>cell_of_row _ _ j _ _ _ g1
    have e10:=cell_of_row _ _ 0 _ _ _ g1
    simp only[z15z,z16z] at e10
    have g64:=G64.out
    clear hW1 b1 g1 HB1
    generalize w1.heap.size=k6 at *
    go_upto_region 13 with fail
    clear e1 e10 g64
    go_loopw [3,7] (λtt ii wq=>∃ (i:Nat) (u:ByteArray),ii=.int .i64 (i:Nat)/\i<=n/\tt=.string u/\u.data.toList=t2 i/\Below W1.heap.size W1 wq) (λ_ ii _=>n-(intOf ii).toNat)
    case atStart=>exact⟨0,_,rfl,z8z _,rfl,rfl,z6z _ _⟩
    case round=>
     obtain⟨i,v,rfl,hi,rfl,hu,hB⟩:=hrel
     have hn:=HN.out
     have hus:v.size<=9+15*i:=by rw[sz_of hu];exact t2_len i
     by_cases hin:i<n
     ·have m1:((i:Nat):Int)<n:=by omega
      have HM:=hd (show n-(intOf (.int .i64 ((i:Int)+1))).toNat<n-(intOf (.int .i64 (i:Int))).toNat by show n-((i:Int)+1).toNat<n-((i:Int)).toNat;omega)
      have wk:z9z.wrap ((i:Int)+1)=(i:Int)+1:=wri _ (by omega) (by omega)
      have wk':wrap64 ((i:Int)+1)=(i:Int)+1:=wr6 _ (by omega) (by omega)
      have HB:=hd hB
      have cd:=digits_c i (by omega) wr
      have HIN:=hd hin
      have HU:=hd (z2z hu (show v.size<=1500 by omega))
      clear hin hu hn hi hus hB
      go_wp2_with (go_at_call 6;(with_reducible refine cd.mono ?_);rintro e w2 ⟨d,rfl,hdl,hB2⟩;(have hds:d.size<=2:=by rw[sz_of hdl];exact dw_len i);(have z1:¬9223372036854775807<5+d.size:=by omega);(have z2:¬9223372036854775807<5+d.size+8:=by omega);(have z3:¬9223372036854775807<v.size+(5+d.size+8):=by have:=HU.out.2;omega);(have HD:=hd hdl);(have HB3:=hd (HB.out.trans (hB2.mono HB.out.size)));clear hdl hds hB2 cd)
      exact⟨⟨i+1,_,rfl,HIN.out,rfl,by simp[ByteArray.data_append,HU.out.1,HD.out,t2],HB3.out⟩,HM.out⟩
     ·obtain rfl:n=i:=by omega
      clear hin hi
      have z1:¬9223372036854775807<v.size+1:=by omega
      have hb2:=HB2.out.trans (hB.mono HB2.out.size)
      have g2:=(hB.block _ (z11z.1 F6.out).1).trans F6.out
      have F7:=hd g2
      have HB3:=hd hb2
      have cl:=C2.out (v++⟨#[125]⟩) (by simp[ByteArray.data_append,hu]) wr hb2
      clear hu hus hn hB g2 hb2 HB2 F6 C2
      go_upto_region 17 with(go_at_call 7;(with_reducible refine cl.mono ?_);rintro e w3 ⟨r2,rfl,hB3,hj⟩;(have g3:=(hB3.block _ (z11z.1 F7.out).1).trans F7.out);(have e3:=λj=>cell_of_row _ _ j _ _ _ g3);(have t3:∀j,w3.frozen? ⟨k6,j,none⟩=false:=λj=>by simp only[z17z,g3];simp);(have HB4:=hd (HB3.out.trans (hB3.mono HB3.out.size)));(have F8:=hd g3);(have HJ8:=hd hj);clear cl hB3 g3 hj)
      generalize hW3:z10z (z10z w3 _ _) _ _=W3 at *
      have hj3:=st_newJ hW3 F8.out HJ.out HJ8.out
      obtain⟨g4,b4⟩:=st_new hW3 F8.out HB4.out L6.out
      have e4:=λj=>cell_of_row _ _ j _ _ _ g4
      have e40:=cell_of_row _ _ 0 _ _ _ g4
      simp only[z15z,z16z] at e40
      have CRR:=hd (λh=>CR.out h _ _ b4 (hj3 h))
      have HB9:=hd b4
      have F9:=hd g4
      have g64:=G64.out
      clear hW3 hj3 g4 b4 e3 t3 HB4 F8 HJ8 CR HB3 F7 z1
      obtain⟨k,hk⟩:∃k:Nat,k=n*15:=⟨_,rfl⟩
      have hn:=HN.out
      have w15:z9z.wrap ((n:Int)*15)=(k:Int):=by rw[show (n:Int)*15=(k:Int) by omega];exact wri _ (by omega) (by omega)
      have HK:=hd (z2z hk (show k<=1050 by omega))
      clear hk hn
      go_upto_region 20 with(go_at_call 8;(with_reducible refine(CRR.out (by have:=G64.out;omega)).mono ?_);rintro e w4 ⟨rfl,hB5⟩;(have F9:=hd ((hB5.block _ (z11z.1 F9.out).1).trans F9.out));(have HB9:=hd (HB9.out.trans (hB5.mono HB9.out.size)));clear hB5)
      clear e4 e40 g64 w15 CRR
      go_upto_region 22 with(first|(go_at_call 9;(with_reducible refine(textG_c ⟨#[98,114,101,97,107,59,32]⟩ [98,114,101,97,107,59,32] rfl 7 rfl (by decide) (by decide) k (by have:=HK.out;omega) _).mono ?_);rintro e w5 ⟨u5,rfl,hul,hB6⟩;(have hus:u5.size<=7350:=by rw[sz_of hul,rpl_len];have:=HK.out;simp;omega);(have z5:¬9223372036854775807<22+u5.size:=by omega);(have z6:¬9223372036854775807<22+u5.size+3:=by omega);(have g6:=(hB6.block _ (z11z.1 F9.out).1).trans F9.out);(have b6:=HB9.out.trans (hB6.mono HB9.out.size));(have cl:=C3.out (⟨#[102,110,32,102,40,41,32,123,32,119,104,105,108,101,32,116,114,117,101,32,123,32]⟩++u5++⟨#[125,32,125]⟩) (by simp[ByteArray.data_append,hul,HK.out.1]) _ b6);(have F10:=hd g6);(have HB10:=hd b6);clear hul hus hB6 g6 b6)|(go_at_call 7;(with_reducible refine cl.mono ?_);rintro e w6 ⟨r6,rfl,hB7⟩;(have g7:=(hB7.block _ (z11z.1 F10.out).1).trans F10.out);(have e7:=λj=>cell_of_row _ _ j _ _ _ g7);(have t7:∀j,w6.frozen? ⟨k6,j,none⟩=false:=λj=>by simp only[z17z,g7];simp);(have HB11:=hd (HB10.out.trans (hB7.mono HB10.out.size)));(have F11:=hd g7);clear cl hB7 g7))
      generalize hW6:z10z (z10z w6 _ _) _ _=W6 at *
      obtain⟨g8,b8⟩:=st_new hW6 F11.out HB11.out L6.out
      have e8:=λj=>cell_of_row _ _ j _ _ _ g8
      have e80:=cell_of_row _ _ 0 _ _ _ g8
      simp only[z15z,z16z] at e80
      have HB12:=hd b8
      have F12:=hd g8
      have w3:z9z.wrap ((k:Int)+3)=(k:Int)+3:=wri _ (by omega) (by have:=HK.out;omega)
      (first|(have g66:¬ ((k:Nat):Int)+3>1000:=by have:=G66.out;have:=HK.out;omega)|(have g66:((k:Nat):Int)+3>1000:=by have:=G66.out;have:=HK.out;omega))
      clear hW6 g8 b8 e7 t7 F11 HB11 C3 z5 z6 F10 HB10 F9 HB9 G66
      go_upto_region 26 with fail
      clear e8 e80 w3 g66
      go_loopw [3,10] (λtt ii wq=>∃ (i:Nat) (u:ByteArray),ii=.int .i64 (i:Nat)/\i<=n/\tt=.string u/\u.data.toList=t4 i/\Below W6.heap.size W6 wq) (λ_ ii _=>n-(intOf ii).toNat)
      case atStart=>exact⟨0,_,rfl,z8z _,rfl,rfl,z6z _ _⟩
      case round=>
       obtain⟨i,v,rfl,hi,rfl,hu,hB⟩:=hrel
       have hn:=HN.out
       have hus:v.size<=5+5*i:=by rw[sz_of hu];exact t4_len i
       by_cases hin:i<n
       ·have m1:((i:Nat):Int)<n:=by omega
        have HM:=hd (show n-(intOf (.int .i64 ((i:Int)+1))).toNat<n-(intOf (.int .i64 (i:Int))).toNat by show n-((i:Int)+1).toNat<n-((i:Int)).toNat;omega)
        have wk:z9z.wrap ((i:Int)+1)=(i:Int)+1:=wri _ (by omega) (by omega)
        have wk':wrap64 ((i:Int)+1)=(i:Int)+1:=wr6 _ (by omega) (by omega)
        have HB:=hd hB
        have cd:=digits_c i (by omega) wr
        have HIN:=hd hin
        have HU:=hd (z2z hu (show v.size<=1500 by omega))
        have z0:¬9223372036854775807<v.size+2:=by omega
        clear hin hu hn hi hus hB
        by_cases hi0:i=0
        ·have m2:¬ ((i:Nat):Int)>0:=by omega
         have HI0:=hd hi0
         clear hi0
         go_wp2_with (go_at_call 6;(with_reducible refine cd.mono ?_);rintro e w2 ⟨d,rfl,hdl,hB2⟩;(have hds:d.size<=2:=by rw[sz_of hdl];exact dw_len i);(have z1:¬9223372036854775807<1+d.size:=by omega);(have z3:¬9223372036854775807<v.size+(1+d.size):=by have:=HU.out.2;omega);(have HD:=hd hdl);(have HB3:=hd (HB.out.trans (hB2.mono HB.out.size)));clear hdl hds hB2 cd)
         exact⟨⟨i+1,_,rfl,HIN.out,rfl,by simp[ByteArray.data_append,HU.out.1,HD.out,t4,HI0.out],HB3.out⟩,HM.out⟩
        ·have m2:((i:Nat):Int)>0:=by omega
         have HI0:=hd (show 0<i by omega)
         clear hi0
         go_wp2_with (go_at_call 6;(with_reducible refine cd.mono ?_);rintro e w2 ⟨d,rfl,hdl,hB2⟩;(have hds:d.size<=2:=by rw[sz_of hdl];exact dw_len i);(have z1:¬9223372036854775807<1+d.size:=by omega);(have z3:¬9223372036854775807<v.size+2+(1+d.size):=by have:=HU.out.2;omega);(have HD:=hd hdl);(have HB3:=hd (HB.out.trans (hB2.mono HB.out.size)));clear hdl hds hB2 cd)
         exact⟨⟨i+1,_,rfl,HIN.out,rfl,by simp[ByteArray.data_append,HU.out.1,HD.out,t4,HI0.out],HB3.out⟩,HM.out⟩
       ·obtain rfl:n=i:=by omega
        clear hin hi
        have z1:¬9223372036854775807<v.size+5:=by omega
        have b9:=HB12.out.trans (hB.mono HB12.out.size)
        have g9:=(hB.block _ (z11z.1 F12.out).1).trans F12.out
        have F13:=hd g9
        have HB13:=hd b9
        have cl:=C4.out (v++⟨#[41,32,123,32,125]⟩) (by simp[ByteArray.data_append,hu]) wr b9
        clear hu hus hB g9 b9 HB12 F12 C4
        obtain⟨p,hp⟩:∃p:Nat,p=4*n:=⟨_,rfl⟩
        have w4:z9z.wrap (4*(n:Int))=(p:Int):=by rw[show 4*(n:Int)=(p:Int) by omega];exact wri _ (by omega) (by omega)
        have HP:=hd (z2z hp (show p<=280 by omega))
        clear hp hn
        go_upto_region 32 with(go_at_call 7;(with_reducible refine cl.mono ?_);rintro e w7 ⟨r7,rfl,hB8⟩;(have g10:=(hB8.block _ (z11z.1 F13.out).1).trans F13.out);(have e10:=λj=>cell_of_row _ _ j _ _ _ g10);(have t10:∀j,w7.frozen? ⟨k6,j,none⟩=false:=λj=>by simp only[z17z,g10];simp);(have HB14:=hd (HB13.out.trans (hB8.mono HB13.out.size)));(have F14:=hd g10);clear cl hB8 g10)
        generalize hW7:z10z (z10z w7 _ _) _ _=W7 at *
        obtain⟨g11,b11⟩:=st_new hW7 F14.out HB14.out L6.out
        have e11:=λj=>cell_of_row _ _ j _ _ _ g11
        have e110:=cell_of_row _ _ 0 _ _ _ g11
        simp only[z15z,z16z] at e110
        have HB15:=hd b11
        have F15:=hd g11
        have g16:=G16.out
        clear hW7 g11 b11 e10 t10 F14 HB14 z1 F13 HB13
        go_upto_region 34 with fail
        clear e11 e110 g16
        go_upto_region 36 with(first|(go_at_call 9;(with_reducible refine(textG_c ⟨#[110,111,116,32]⟩ [110,111,116,32] rfl 4 rfl (by decide) (by decide) p (by have:=HP.out;omega) _).mono ?_);rintro e w8 ⟨u8,rfl,hul,hB9⟩;(have hus:u8.size<=1200:=by rw[sz_of hul,rpl_len];have:=HP.out;simp;omega);(have z5:¬9223372036854775807<13+u8.size:=by omega);(have z6:¬9223372036854775807<13+u8.size+7:=by omega);(have g12:=(hB9.block _ (z11z.1 F15.out).1).trans F15.out);(have b12:=HB15.out.trans (hB9.mono HB15.out.size));(have cl:=C5.out (⟨#[102,110,32,102,40,41,32,123,32,111,117,116,32]⟩++u8++⟨#[116,114,117,101,59,32,125]⟩) (by simp[ByteArray.data_append,hul,HP.out.1]) _ b12);(have F16:=hd g12);(have HB16:=hd b12);(have w44:z9z.wrap ((p:Int)+4)=(p:Int)+4:=wri _ (by omega) (by have:=HP.out;omega));(first|(have g63:¬ ((p:Nat):Int)+4>256:=by have:=G63.out;have:=HP.out;omega)|(have g63:((p:Nat):Int)+4>256:=by have:=G63.out;have:=HP.out;omega));clear hul hus hB9 g12 b12)|(go_at_call 7;(with_reducible refine cl.mono ?_);rintro e w9 ⟨r9,rfl,hB10⟩;(have g13:=(hB10.block _ (z11z.1 F16.out).1).trans F16.out);(have e13:=λj=>cell_of_row _ _ j _ _ _ g13);(have t13:∀j,w9.frozen? ⟨k6,j,none⟩=false:=λj=>by simp only[z17z,g13];simp);(have HB17:=hd (HB16.out.trans (hB10.mono HB16.out.size)));(have F17:=hd g13);clear cl hB10 g13))
        generalize hW9:z10z (z10z w9 _ _) _ _=W9 at *
        obtain⟨g14,b14⟩:=st_new hW9 F17.out HB17.out L6.out
        have e140:=cell_of_row _ _ 0 _ _ _ g14
        simp only[z15z,z16z] at e140
        have cw:=CW.out _ b14
        have HB18:=hd b14
        clear hW9 g14 b14 e13 t13 F17 HB17 z5 z6
        go_wp2_with (go_at_call 10;(with_reducible refine cw.mono ?_);rintro e w10 ⟨rfl,hB11⟩;(have HB19:=hd (HB18.out.trans (hB11.mono HB18.out.size)));clear hB11 cw)
        go_ret
        refine⟨congrArg Ending.returned (congrArg Value.bool ?_),HB19.out⟩
        first|(simp;omega)|(simp;done)|rfl
end
end Go.Proofs.YtjplieobnknnpaaGreatDoor.W.Cs
namespace Go.Proofs.YtjplieobnknnpaaGreatDoor.W
open Go.ChangeShapes Go.WideShapes Go.ChangeAt Go.RowKit
def laid5 : List (String × DataW Unit) := [("math/bits.deBruijn32tab", Rows.laid_math_bits_deBruijn32tab), ("math/bits.deBruijn64tab", Rows.laid_math_bits_deBruijn64tab), ("internal/strconv.uint64pow10", Rows.laid_internal_strconv_uint64pow10), ("casket/ops.kindNames", Rows.laid_casket_ops_kindNames), ("casket/lex.marks", Rows.laid_casket_lex_marks)]
theorem door5(os:Os)(args:Array Value):laidMetH prog laid5 ((World.doorLaid prog 400 os).forCall (λ_ _=>0) ⟨#[],args,[]⟩).memory:=
 laidMetH_of_parts3 (fuel:=8) (laidMet_of_run' 8 (by kernel_rfl) (by kernel_rfl)) (by kernel_rfl) (by kernel_rfl)
theorem of_laid5{W:World}(h:laidMetH prog laid5 W):Tabs W/\MarksIn W:=by
 have h4 := h.filter fun x => ["math/bits.deBruijn32tab", "math/bits.deBruijn64tab", "internal/strconv.uint64pow10", "casket/lex.marks"].contains x.1
 rw [show (laid5.filter fun x => ["math/bits.deBruijn32tab", "math/bits.deBruijn64tab", "internal/strconv.uint64pow10", "casket/lex.marks"].contains x.1) = laidV by kernel_rfl] at h4
 exact of_laid h4
end Go.Proofs.YtjplieobnknnpaaGreatDoor.W
namespace Go.Proofs.YtjplieobnknnpaaGreatDoor.W.Tr
open Go.ChangeShapes Go.WideShapes Go.RowKit Go.Shelf Go.ChangeMaps Ck
set_option linter.unusedVariables false
set_option linter.unusedSimpArgs false
theorem dg_dw(i:Nat):Cs.dw i=dg i:=by
 unfold Cs.dw Cs.dq dg
 by_cases h:i=0
 ·subst h;rfl
 ·rw[if_neg h,if_neg h]
theorem pcs_end(p:Nat->List UInt8):∀n i,pcs p n i++p (i+n)=pcs p (n+1) i
 | 0,i=>by simp[pcs]
 | n+1,i=>by
  show (p i++pcs p n (i+1))++_=p i++pcs p (n+1) (i+1)
  rw[z5z,show i+(n+1)=i+1+n by omega,pcs_end p n (i+1)]
theorem e1:∀n,Cs.t1 n=fnB++32::pcs (λi=>ctB i++[32]) n 0
 | 0=>rfl
 | n+1=>by
  rw[Cs.t1,e1 n,<- pcs_end,dg_dw,z4z]
  simp[ctB]
theorem e2:∀n,Cs.t2 n=fnB++32::pcs (λi=>vrB i++[32]) n 0
 | 0=>rfl
 | n+1=>by
  rw[Cs.t2,e2 n,<- pcs_end,dg_dw,z4z]
  simp[vrB]
theorem e3:∀n,Cs.rpl [98,114,101,97,107,59,32] n=pcs (λ_=>brB++[32]) n 0
 | 0=>rfl
 | n+1=>by
  rw[Cs.rpl,e3 n,<- pcs_end]
  simp[brB]
theorem e4:∀n,Cs.t4 n=[102,110,32,102,40]++pj n
 | 0=>rfl
 | n+1=>by
  rw[Cs.t4,e4 n,dg_dw,pj]
  simp
theorem rp_end'(w:List UInt8):∀n,rp w n++w=rp w (n+1)
 | 0=>by simp[rp]
 | n+1=>by
  have h:=rp_end' w n
  show (w++rp w n)++w=w++rp w (n+1)
  rw[z5z,h]
theorem e5:∀n,Cs.rpl [110,111,116,32] n=rp (ntB++[32]) n
 | 0=>rfl
 | n+1=>by
  rw[Cs.rpl,e5 n,<- rp_end']
  rfl
theorem mk_ofB{X:ByteArray}{l:List UInt8}(h:X.data.toList=l):X=mkB l:=by
 subst h
 unfold mkB
 cases X
 simp
theorem nodes_far{w1:World}{g cap k:Nat}{L:List (Nd × Nat)}{z0 z1 v0 v1:Value}{t:TypeId}(hL:0<L.length)(hk:w1.heap[k]? = some (.cells #[z0,z1] t (0,0)))(h:Cw w1 (.slice (some ⟨g,0,none⟩) L.length cap) L):Cw ((w1.setCell ⟨k,0,none⟩ v0).setCell ⟨k,1,none⟩ v1) (.slice (some ⟨g,0,none⟩) L.length cap) L:=by
 obtain⟨g',cap',e,h1,h2,h3⟩:=h
 simp only[Value.slice.injEq,Option.some.injEq,Addr.mk.injEq,true_and,and_true] at e
 obtain⟨rfl,rfl⟩:=e
 have hne:g≠k:=by
  rintro rfl
  have h5:=h3 0 _ (z26z hL) 5 (by decide)
  rw[cell_of_row _ _ _ _ _ _ hk] at h5
  simp at h5
 have hb:((w1.setCell ⟨k,0,none⟩ v0).setCell ⟨k,1,none⟩ v1).heap[g]? = w1.heap[g]?:=by rw[Below.heap_setCell _ _ _ _ hne,Below.heap_setCell _ _ _ _ hne]
 have hz:=((((z6z 0 w1).setCell (p:=⟨k,0,none⟩) (z8z _) v0).setCell (p:=⟨k,1,none⟩) (z8z _) v1)).size
 exact⟨g,cap,rfl,z22z h1 hz,h2,λi p hp j hj=>(World.cell?_of_block (a:=⟨g,_,none⟩) hb).trans (h3 i p hp j hj)⟩
end Go.Proofs.YtjplieobnknnpaaGreatDoor.W.Tr
namespace Go.Proofs.YtjplieobnknnpaaGreatDoor.W
set_option linter.unusedVariables false
open Go.ChangeShapes Go.WideShapes Go.RowKit Go.Shelf
theorem checkBounds_walk(N:Int)(w0:(Lit.int .i64 N).wf=true)(w:World)(ht:Tabs w)(hm:MarksIn w):Calls prog 3 #[.int .i64 N] w λe w'=>e=.returned (.bool true)/\Below w.heap.size w w':=by
 by_cases h:N<0\/70<N
 ·exact Cs.bo_out N h w
 obtain⟨n,rfl⟩:∃n:Nat,N=n:=⟨N.toNat,by omega⟩
 have hn:n<=70:=by omega
 have cW:=λw1 (hB:Below w.heap.size w w1)=>Tr.AC0 w1 (ht.below hB) (hm.below hB)
 have good:∀ (l:List UInt8),(∃L,Tr.Td (Tr.mkB l) L)->∀ (X:ByteArray),X.data.toList=l->∀w1,Below w.heap.size w w1->Calls prog 7 #[.string X] w1 λe w'=>∃r,e=.returned (.tuple #[r,.agg #[.int .i64 0,.int .i64 0]])/\Below w1.heap.size w1 w':=by
  rintro l ⟨L,hL⟩ X hX w1 hB
  rw[Tr.mk_ofB hX]
  refine(hL w1 (ht.below hB) (hm.below hB)).mono ?_
  rintro e w' ⟨g,cap,rfl,hB2,_⟩
  exact⟨_,rfl,hB2⟩
 have bad:∀ (l:List UInt8) (x y:Int),Tr.RY (Tr.mkB l) x y->∀ (X:ByteArray),X.data.toList=l->∀w1,Below w.heap.size w w1->Calls prog 7 #[.string X] w1 λe w'=>∃r,e=.returned (.tuple #[r,.agg #[.int .i64 x,.int .i64 y]])/\Below w1.heap.size w1 w':=by
  intro l x y hL X hX w1 hB
  rw[Tr.mk_ofB hX]
  refine(hL w1 (ht.below hB) (hm.below hB)).mono ?_
  rintro e w' ⟨rfl,hB2⟩
  exact⟨_,rfl,hB2⟩
 have any:∀ (l:List UInt8) (p q:Prop) (a b:Int),(p\/q)->(p->q->False)->(p->∃L,Tr.Td (Tr.mkB l) L)->(q->∃y,(y=b\/b = -1)/\Tr.RY (Tr.mkB l) a y)->∃x y:Int,(p->x=0)/\(q->x=a/\(y=b\/b = -1))/\∀ (X:ByteArray),X.data.toList=l->∀w1,Below w.heap.size w w1->Calls prog 7 #[.string X] w1 λe w'=>∃r,e=.returned (.tuple #[r,.agg #[.int .i64 x,.int .i64 y]])/\Below w1.heap.size w1 w':=by
  intro l p q a b hpq hno hp hq
  rcases hpq with h|h
  ·exact⟨0,0,λ_=>rfl,λk=>(hno h k).elim,good l (hp h)⟩
  ·obtain⟨y,hy,hL⟩:=hq h
   exact⟨a,y,λk=>(hno k h).elim,λ_=>⟨rfl,hy⟩,bad l a y hL⟩
 obtain⟨x1,y1,a1,b1,c1⟩:=any (Tr.src1 n) (n<=64) (64<n) 84 3 (by omega) (by omega) (Tr.ld1 hn).1 (λh=>⟨3,.inl rfl,(Tr.ld1 hn).2 h⟩)
 obtain⟨x3,y3,a3,b3,c3⟩:=any (Tr.src3 (n*15)) (n<=66) (66<n) 85 9 (by omega) (by omega) (λh=>(Tr.ld3 (by omega)).1 (by omega)) (λh=>⟨9,.inl rfl,(Tr.ld3 (by omega)).2 (by omega)⟩)
 obtain⟨x4,y4,a4,b4,c4⟩:=any (Tr.ppS n) (n<=16) (16<n) 81 (-1) (by omega) (by omega) (Tr.ld4 hn).1 (λh=>by obtain⟨y,hy⟩:=(Tr.ld4 hn).2 h;exact⟨y,.inr rfl,hy⟩)
 obtain⟨x5,y5,a5,b5,c5⟩:=any (Tr.ntS (4*n)) (n<=63) (63<n) 71 (-1) (by omega) (by omega) (λh=>(Tr.ld5 (by omega)).1 (by omega)) (λh=>by obtain⟨y,hy⟩:=(Tr.ld5 (k:=4*n) (by omega)).2 (by omega);exact⟨y,.inr rfl,hy⟩)
 have q1:Cs.t1 n++[125]=Tr.src1 n:=by rw[Tr.e1];unfold Tr.src1;simp
 have q2:Cs.t2 n++[125]=Tr.src2 n:=by rw[Tr.e2];unfold Tr.src2;simp
 have q3:([102,110,32,102,40,41,32,123,32,119,104,105,108,101,32,116,114,117,101,32,123,32]++Cs.rpl [98,114,101,97,107,59,32] (n*15))++[125,32,125]=Tr.src3 (n*15):=by rw[Tr.e3];unfold Tr.src3;simp[Tr.fnB,Tr.whB]
 have q4:Cs.t4 n++[41,32,123,32,125]=Tr.ppS n:=by rw[Tr.e4];rfl
 have q5:([102,110,32,102,40,41,32,123,32,111,117,116,32]++Cs.rpl [110,111,116,32] (4*n))++[116,114,117,101,59,32,125]=Tr.ntS (4*n):=by rw[Tr.e5];unfold Tr.ntS;simp[Tr.fnB,Tr.otB,Tr.trB]
 by_cases h64:n<=64
 ·obtain⟨L,hL0,hL,hR⟩:=(Tr.ld2 hn).1 h64
  refine Cs.bo_in n hn w x1 y1 0 0 x3 y3 x4 y4 x5 y5 (λw1 r=>∃g cap,r=.slice (some ⟨g,0,none⟩) L.length cap/\Tr.Cw w1 r L) ?_ a1 (λh=>⟨(b1 h).1,(b1 h).2.resolve_right (by decide)⟩) (λ_=>rfl) (λh=>absurd h (by omega)) a3 (λh=>⟨(b3 h).1,(b3 h).2.resolve_right (by decide)⟩) a4 (λh=>(b4 h).1) a5 (λh=>(b5 h).1) (λX hX=>c1 X (hX.trans q1)) ?_ ?_ (λX hX=>c3 X (hX.trans q3)) (λX hX=>c4 X (hX.trans q4)) (λX hX=>c5 X (hX.trans q5)) cW
  ·rintro w1 r k z0 z1 v0 v1 t hk ⟨g,cap,rfl,hN⟩
   exact⟨g,cap,rfl,Tr.nodes_far hL0 hk hN⟩
  ·intro X hX w1 hB
   rw[Tr.mk_ofB (hX.trans q2)]
   refine(hL w1 (ht.below hB) (hm.below hB)).mono ?_
   rintro e w' ⟨g,cap,rfl,hB2,hN⟩
   exact⟨_,rfl,hB2,λ_=>⟨g,cap,rfl,hN⟩⟩
  ·rintro _ w1 r hB ⟨g,cap,rfl,hN⟩
   exact hR g cap w1 (ht.below hB) (hm.below hB) hN
 ·refine Cs.bo_in n hn w x1 y1 83 3 x3 y3 x4 y4 x5 y5 (λw1 r=>True) (λ_ _ _ _ _ _ _ _ _ _=>trivial) a1 (λh=>⟨(b1 h).1,(b1 h).2.resolve_right (by decide)⟩) (λh=>absurd h h64) (λ_=>rfl) a3 (λh=>⟨(b3 h).1,(b3 h).2.resolve_right (by decide)⟩) a4 (λh=>(b4 h).1) a5 (λh=>(b5 h).1) (λX hX=>c1 X (hX.trans q1)) ?_ (λh=>absurd h h64) (λX hX=>c3 X (hX.trans q3)) (λX hX=>c4 X (hX.trans q4)) (λX hX=>c5 X (hX.trans q5)) cW
  intro X hX w1 hB
  refine(bad (Tr.src2 n) 83 3 ((Tr.ld2 hn).2 (by omega)) X (hX.trans q2) w1 hB).mono ?_
  rintro e w' ⟨r,he,hB2⟩
  exact⟨r,he,hB2,λ_=>trivial⟩
end Go.Proofs.YtjplieobnknnpaaGreatDoor.W
