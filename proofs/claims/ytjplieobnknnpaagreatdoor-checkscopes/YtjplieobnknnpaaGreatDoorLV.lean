import Derived.Test.YtjplieobnknnpaaGreatDoorKY
import Derived.Test.YtjplieobnknnpaaGreatDoorKA
import Derived.Test.YtjplieobnknnpaaGreatDoorKS
import Derived.Test.YtjplieobnknnpaaGreatDoorLA
import Derived.Test.YtjplieobnknnpaaGreatDoorProg
import Derived.Below
import Derived.BigQuiet
import Derived.Deep.QuietTactic
import Derived.KernelRfl
import Derived.Laws.OwnMore
import Derived.Laws.Rows
import Derived.WalkKit
import Derived.WalkLawsBesides
import Derived.Shelf.Abstract
import Derived.Shelf.RegionOpen
import Derived.TacticsInMore
import Derived.Deep.Cut
import Derived.RangeFuncRecord
import Derived.Lib.AppendStr
import Derived.Test.YtjplieobnknnpaaGreatDoorJO
import Derived.LaidSub
import Derived.LaidMore
import Derived.Stop.Joined
import Derived.ProofKit
open List renaming append_assoc → z0z, length_append → z5z, cons_append → z9z, length_cons → z12z, getElem?_eq_some_iff → z14z, getElem?_append_left → z15z, getElem?_append_right → z16z
open Array renaming getElem?_eq_some_iff → z13z
open Nat renaming le_refl → z2z, zero_add → z4z, zero_le → z8z, le_max_right → z10z, le_max_left → z11z
open Go.World renaming setCell → z7z
open Go.RowKit.Below renaming refl → z6z
open Go.IntKind renaming i64 → z3z
open And renaming intro → z1z
open Go.Proofs.Tryz
set_option maxRecDepth 1000000
set_option maxHeartbeats 8000000
namespace Go.Proofs.YtjplieobnknnpaaGreatDoor.W.Tr
set_option linter.unusedVariables false
set_option linter.unusedSimpArgs false
abbrev yW(t:ByteArray)(a:Int):Yd:=⟨⟨2,t,0,0⟩,a,0,0⟩
abbrev yM(t:ByteArray)(a:Int):Yd:=⟨⟨3,t,0,0⟩,a,0,0⟩
abbrev yN(t:ByteArray)(a:Int):Yd:=⟨⟨1,t,0,0⟩,a,0,0⟩
abbrev yI(n a:Int):Yd:=⟨⟨4,⟨#[]⟩,n,0⟩,a,0,0⟩
abbrev k_a:ByteArray:=⟨#[97]⟩
abbrev k_f:ByteArray:=⟨#[102]⟩
def fnB:List UInt8:=[102,110,32,102,40,41,32,123]
def ifB:List UInt8:=[105,102,32,116,114,117,101,32,123]
def leB:List UInt8:=[108,101,116,32,97,32,61,32,49,59]
def laB:List UInt8:=[108,101,116,32,97,32,61,32,97,59]
def ouB:List UInt8:=[111,117,116,32,97,59]
def shB:List UInt8:=[125]
def fnT(a:Int):List Yd:=[yW ug (0+a),yN k_f (3+a),yM OM (4+a),yM NJ (5+a),yM Zt (7+a)]
def ifT(a:Int):List Yd:=[yW Oq (0+a),yW bG (3+a),yM Zt (8+a)]
def leT(a:Int):List Yd:=[yW Lh (0+a),yN k_a (4+a),yM Kz (6+a),yI 1 (8+a),yM Gx (9+a)]
def laT(a:Int):List Yd:=[yW Lh (0+a),yN k_a (4+a),yM Kz (6+a),yN k_a (8+a),yM Gx (9+a)]
def ouT(a:Int):List Yd:=[yW VH (0+a),yN k_a (4+a),yM Gx (5+a)]
def shT(a:Int):List Yd:=[yM PK (0+a)]
def ifF(a:Int)(f:Fo):Fo:=.cons ⟨9,0+a,⟨#[]⟩,0,0⟩ (.cons ⟨29,3+a,⟨#[]⟩,0,0⟩ .nil (.cons ⟨5,8+a,⟨#[]⟩,0,0⟩ f .nil)) .nil
def leF(a:Int):Fo:=.cons ⟨6,4+a,k_a,0,0⟩ (.cons ⟨26,8+a,⟨#[]⟩,1,0⟩ .nil .nil) .nil
def laF(a:Int):Fo:=.cons ⟨6,4+a,k_a,0,0⟩ (.cons ⟨25,8+a,k_a,0,0⟩ .nil .nil) .nil
def ouF(a:Int):Fo:=.cons ⟨16,0+a,⟨#[]⟩,0,0⟩ (.cons ⟨25,4+a,k_a,0,0⟩ .nil .nil) .nil
def fnF(f:Fo):Fo:=.cons ⟨3,3+0,k_f,0,0⟩ (.cons ⟨5,7+0,⟨#[]⟩,0,0⟩ f .nil) .nil
theorem norem{v:List UInt8}(h:(35:UInt8) ∉ v):JQ v:=λx y e=>absurd (by rw[e];simp) h
theorem lx(v:List UInt8)(ts:List Yd)(hT:T v 0=ts++[⟨Eo,(v.length:Nat),0,0⟩])(hc:∀y ∈ ts,y.c=0)(hR:(35:UInt8) ∉ v)(B:List UInt8)(a:Nat):T (v++32::B) a=ts.map (Ot a)++T B (a+v.length+1):=by
 refine AC1 32 v.length v B a _ (.inr ⟨rfl,norem hR⟩) (z2z _) ⟨?_,?_⟩
 ·have e:=AC2 a v.length v 0 (z2z _)
  rw[z4z,hT,List.map_append] at e
  rw[e]
  congr 1
  simp only[List.map_cons,List.map_nil,Ot,if_true]
  rw[show ((v.length:Nat):Int)+(a:Nat)=((a+v.length:Nat):Int) by omega]
 ·intro y hy
  obtain⟨z,hz,rfl⟩:=List.mem_map.1 hy
  unfold Ot
  rw[if_pos (hc z hz)]
  exact hc z hz
theorem lx_fn(B:List UInt8)(a:Nat):T (fnB++32::B) a=fnT a++T B (a+9):=lx fnB (fnT 0) (by kernel_rfl) (by decide) (by decide) B a
theorem lx_if(B:List UInt8)(a:Nat):T (ifB++32::B) a=ifT a++T B (a+10):=lx ifB (ifT 0) (by kernel_rfl) (by decide) (by decide) B a
theorem lx_le(B:List UInt8)(a:Nat):T (leB++32::B) a=leT a++T B (a+11):=lx leB (leT 0) (by kernel_rfl) (by decide) (by decide) B a
theorem lx_la(B:List UInt8)(a:Nat):T (laB++32::B) a=laT a++T B (a+11):=lx laB (laT 0) (by kernel_rfl) (by decide) (by decide) B a
theorem lx_ou(B:List UInt8)(a:Nat):T (ouB++32::B) a=ouT a++T B (a+7):=lx ouB (ouT 0) (by kernel_rfl) (by decide) (by decide) B a
theorem lx_sh(B:List UInt8)(a:Nat):T (shB++32::B) a=shT a++T B (a+2):=lx shB (shT 0) (by kernel_rfl) (by decide) (by decide) B a
def rp(w:List UInt8):Nat->List UInt8
 | 0=>[]
 | n+1=>w++rp w n
theorem rp_end(w:List UInt8):∀n,rp w n++w=rp w (n+1)
 | 0=>by simp[rp]
 | n+1=>by
  have h:=rp_end w n
  show (w++rp w n)++w=w++rp w (n+1)
  rw[z0z,h]
def ifsT:Nat->Int->List Yd
 | 0,a=>[]
 | n+1,a=>ifT a++ifsT n (a+10)
def shsT:Nat->Int->List Yd
 | 0,a=>[]
 | n+1,a=>shT a++shsT n (a+2)
theorem lx_ifs(B:List UInt8):∀ (n a:Nat),T (rp (ifB++[32]) n++B) a=ifsT n a++T B (a+10*n)
 | 0,a=>rfl
 | n+1,a=>by
  show T ((ifB++[32]++rp (ifB++[32]) n)++B) a=(ifT a++ifsT n ((a:Int)+10))++_
  rw[show (ifB++[32]++rp (ifB++[32]) n)++B=ifB++32::(rp (ifB++[32]) n++B) by simp,lx_if,lx_ifs B n (a+10),z0z]
  rw[show a+10+10*n=a+10*(n+1) by omega]
  rfl
theorem lx_shs(B:List UInt8):∀ (n a:Nat),T (rp (shB++[32]) n++B) a=shsT n a++T B (a+2*n)
 | 0,a=>rfl
 | n+1,a=>by
  show T ((shB++[32]++rp (shB++[32]) n)++B) a=(shT a++shsT n ((a:Int)+2))++_
  rw[show (shB++[32]++rp (shB++[32]) n)++B=shB++32::(rp (shB++[32]) n++B) by simp,lx_sh,lx_shs B n (a+2),z0z]
  rw[show a+2+2*n=a+2*(n+1) by omega]
  rfl
theorem lx_last(a:Nat):T [125] a=shT a++[⟨Eo,((a+1:Nat):Int),0,0⟩]:=by
 have e:=AC2 a 1 [125] 0 (z2z _)
 rw[z4z,show T [125] 0=shT 0++[⟨Eo,1,0,0⟩] by kernel_rfl] at e
 rw[e]
 show shT a++[⟨Eo,1+((a:Nat):Int),0,0⟩]=_
 rw[show (1:Int)+((a:Nat):Int)=((a+1:Nat):Int) by omega]
def En(nt:Nt)(s:Cs)(r:Fo × Cs):Prop:=∃n,P n nt s=some (.ok r)
def Hd1(R:List Yd):Prop:=∃y R',R=y::R'/\y.c=0/\AP y.t≠aQ
def Sq(o:Int)(ts:List Yd)(f:Fo):Prop:=∀ (l:Fo) (R:List Yd) (r:Fo × Cs),Hd1 R->En (.blT (l.app f)) ⟨R,o⟩ r->En (.blT l) ⟨ts++R,o⟩ r
theorem ap_nil:∀f:Fo,f.app .nil=f
 | .nil=>rfl
 | .cons n k r=>by show Fo.cons n k (r.app .nil)=_;rw[ap_nil r]
theorem ap_app:∀f g h:Fo,(f.app g).app h=f.app (g.app h)
 | .nil,g,h=>rfl
 | .cons n k r,g,h=>by show Fo.cons n k ((r.app g).app h)=Fo.cons n k (r.app (g.app h));rw[ap_app r]
theorem Sq.nil(o:Int):Sq o [] .nil:=λl R r _ h=>by rw[ap_nil] at h;exact h
theorem look_at{y:Yd}{R:List Yd}{o:Int}(h:y.c=0)(ho:o≠64):look ⟨y::R,o⟩=.ok y:=by
 unfold look
 simp only[h,if_true]
 rw[if_neg (λk=>ho k.2)]
theorem lookM_at{y:Yd}{R:List Yd}{o:Int}(h:y.c=0)(ho:o≠64):BJ ⟨y::R,o⟩=some (.ok (y,⟨y::R,o⟩)):=by
 unfold BJ
 rw[look_at h ho]
theorem takeM_at{y:Yd}{R:List Yd}{o:Int}(h:y.c=0)(ho:o≠64):Bf ⟨y::R,o⟩=some (.ok (y,behind y ⟨y::R,o⟩)):=by
 unfold Bf
 rw[look_at h ho]
theorem wantM_at{t:ByteArray}{y:Yd}{R:List Yd}{o:Int}(h:y.c=0)(ho:o≠64)(ht:AP y.t=t):Bg t ⟨y::R,o⟩=some (.ok (y,behind y ⟨y::R,o⟩)):=by
 unfold Bg
 rw[bind_ok (lookM_at h ho),if_pos ht,takeM_at h ho]
theorem sq_one{o:Int}(ho:o≠64){y:Yd}{ts:List Yd}{f:Fo}(hy:y.c=0)(hk:AP y.t≠PK)(h:∀R,Hd1 R->En .st ⟨y::(ts++R),o⟩ (f,⟨R,o⟩)):Sq o (y::ts) f:=by
 intro l R r hR ⟨n,hn⟩
 obtain⟨m,hm⟩:=h R hR
 refine⟨max n m+1,?_⟩
 unfold P
 rw[z9z,bind_ok (lookM_at hy ho),if_neg hk,bind_ok (Yn (z10z n m) _ _ _ hm)]
 exact Yn (z11z n m) _ _ _ hn
theorem Sq.app{o:Int}{p q:List Yd}{f g:Fo}(h:Sq o p f)(k:Sq o q g)(hq:∀R,Hd1 R->Hd1 (q++R)):Sq o (p++q) (f.app g):=by
 intro l R r hR he
 rw[z0z]
 refine h l (q++R) r (hq R hR) (k (l.app f) R r hR ?_)
 rw[ap_app]
 exact he
theorem hd_le(a:Int)(R:List Yd):Hd1 (leT a++R):=⟨_,_,rfl,rfl,(show AP ⟨2,Lh,0,0⟩≠aQ by decide)⟩
theorem hd_la(a:Int)(R:List Yd):Hd1 (laT a++R):=⟨_,_,rfl,rfl,(show AP ⟨2,Lh,0,0⟩≠aQ by decide)⟩
theorem hd_ou(a:Int)(R:List Yd):Hd1 (ouT a++R):=⟨_,_,rfl,rfl,(show AP ⟨2,VH,0,0⟩≠aQ by decide)⟩
theorem hd_if(a:Int)(R:List Yd):Hd1 (ifT a++R):=⟨_,_,rfl,rfl,(show AP ⟨2,Oq,0,0⟩≠aQ by decide)⟩
theorem hd_sh(a:Int)(R:List Yd):Hd1 (shT a++R):=⟨_,_,rfl,rfl,(show AP ⟨3,PK,0,0⟩≠aQ by decide)⟩
theorem st_le(o a:Int)(R:List Yd):En .st ⟨leT a++R,o⟩ (leF a,⟨R,o⟩):=by
 have e:P 40 .st ⟨leT a++R,o⟩=some (.ok (leF a,⟨R,o+0-0+0-0+0-0+0-0+0-0⟩)):=by kernel_rfl
 simp only[Int.add_zero,Int.sub_zero] at e
 exact⟨40,e⟩
theorem st_la(o a:Int)(R:List Yd):En .st ⟨laT a++R,o⟩ (laF a,⟨R,o⟩):=by
 have e:P 40 .st ⟨laT a++R,o⟩=some (.ok (laF a,⟨R,o+0-0+0-0+0-0+0-0+0-0⟩)):=by kernel_rfl
 simp only[Int.add_zero,Int.sub_zero] at e
 exact⟨40,e⟩
theorem st_ou(o a:Int)(R:List Yd):En .st ⟨ouT a++R,o⟩ (ouF a,⟨R,o⟩):=by
 have e:P 40 .st ⟨ouT a++R,o⟩=some (.ok (ouF a,⟨R,o+0-0+0-0+0-0⟩)):=by kernel_rfl
 simp only[Int.add_zero,Int.sub_zero] at e
 exact⟨40,e⟩
theorem sq_le{o:Int}(ho:o≠64)(a:Int):Sq o (leT a) (leF a):=sq_one ho rfl (show AP ⟨2,Lh,0,0⟩≠PK by decide) λR _=>st_le o a R
theorem sq_la{o:Int}(ho:o≠64)(a:Int):Sq o (laT a) (laF a):=sq_one ho rfl (show AP ⟨2,Lh,0,0⟩≠PK by decide) λR _=>st_la o a R
theorem sq_ou{o:Int}(ho:o≠64)(a:Int):Sq o (ouT a) (ouF a):=sq_one ho rfl (show AP ⟨2,VH,0,0⟩≠PK by decide) λR _=>st_ou o a R
theorem ex_true{o:Int}(ho:o≠64)(p q:Int)(R:List Yd):P 16 .ex ⟨yW bG p::yM Zt q::R,o⟩=some (.ok (Fo.one ⟨29,p,⟨#[]⟩,0,0⟩ .nil,⟨yM Zt q::R,o⟩)):=by
 simp[P,Pm.bind,Pm.pure,BJ,Bf,Bg,look,behind,AP,Gm,J8,tight,comp,ho,Ap,BD]
theorem bl_of{o:Int}(ho:o≠64)(h1:o+1≠64){ts:List Yd}{f:Fo}(h:Sq (o+1) ts f)(q b:Int)(R:List Yd):En .bl ⟨yM Zt q::(ts++(shT b++R)),o⟩ (Fo.one ⟨5,q,⟨#[]⟩,0,0⟩ f,⟨R,o⟩):=by
 obtain⟨n,hn⟩:=h .nil (shT b++R) (f,⟨R,o⟩) (hd_sh b R) ⟨1,by
  unfold P
  rw[show shT b++R=yM PK (0+b)::R from rfl,bind_ok (lookM_at rfl h1),if_pos (show AP ⟨3,PK,0,0⟩=PK by decide),bind_ok (wantM_at rfl h1 (show AP ⟨3,PK,0,0⟩=PK by decide))]
  show some (Except.ok ((Fo.nil).app f,(⟨R,o+1+0-1⟩:Cs)))=_
  rw[show o+1+0-1=o by omega]
  rfl⟩
 refine⟨n+1,?_⟩
 unfold P
 rw[bind_ok (wantM_at rfl ho (show AP ⟨3,Zt,0,0⟩=Zt by decide))]
 show (P n (.blT .nil)).bind _ ⟨ts++(shT b++R),o+1-0⟩=_
 rw[show o+1-0=o+1 by omega,bind_ok hn]
 rfl
theorem st_if{o:Int}(ho:o≠64)(h1:o+1≠64){ts:List Yd}{f:Fo}(h:Sq (o+1) ts f)(a b:Int)(R:List Yd)(hR:Hd1 R):En .st ⟨ifT a++(ts++(shT b++R)),o⟩ (ifF a f,⟨R,o⟩):=by
 obtain⟨n,hn⟩:=bl_of ho h1 h (8+a) b R
 have hx:=Yn (z10z n 16) .ex _ _ (ex_true ho (3+a) (8+a) (ts++(shT b++R)))
 have hb:=Yn (z11z n 16) _ _ _ hn
 refine⟨max n 16+1+1,?_⟩
 obtain⟨z,R',rfl,hz,he⟩:=hR
 unfold P
 rw[show ifT a++(ts++(shT b++z::R'))=yW Oq (0+a)::yW bG (3+a)::yM Zt (8+a)::(ts++(shT b++z::R')) from rfl,bind_ok (lookM_at rfl ho),if_neg (show ¬AP ⟨2,Oq,0,0⟩=Lh by decide),if_pos (show AP ⟨2,Oq,0,0⟩=Oq by decide)]
 unfold P
 rw[bind_ok (wantM_at rfl ho (show AP ⟨2,Oq,0,0⟩=Oq by decide))]
 show (P (max n 16) .ex).bind _ ⟨yW bG (3+a)::yM Zt (8+a)::(ts++(shT b++z::R')),o+0-0⟩=_
 rw[show o+0-0=o by omega,bind_ok hx,bind_ok hb,bind_ok (lookM_at hz ho),if_neg he]
 rfl
theorem sq_if{o:Int}(ho:o≠64)(h1:o+1≠64){ts:List Yd}{f:Fo}(h:Sq (o+1) ts f)(a b:Int):Sq o (ifT a++(ts++shT b)) (ifF a f):=by
 refine sq_one ho rfl (show AP ⟨2,Oq,0,0⟩≠PK by decide) λR hR=>?_
 have:=st_if ho h1 h a b R hR
 rw[show ifT a++(ts++(shT b++R))=ifT a++(ts++shT b)++R by simp] at this
 exact this
def nest(X:Int->Fo):Nat->Int->Fo
 | 0,a=>X a
 | n+1,a=>ifF a (nest X n (a+10))
theorem sq_nest(X:Int->Fo)(xs:Int->List Yd):∀ (n:Nat) (o a:Int) (bs:Int),0<=o->o+n<64->Sq (o+n) (xs (a+10*n)) (X (a+10*n))->Sq o (ifsT n a++(xs (a+10*n)++shsT n bs)) (nest X n a)
 | 0,o,a,bs,h0,h1,h=>by
  have e:a+10*((0:Nat):Int)=a:=by omega
  have e2:o+((0:Nat):Int)=o:=by omega
  rw[e,e2] at h
  rw[e]
  simpa [ifsT,shsT,nest] using h
 | n+1,o,a,bs,h0,h1,h=>by
  have e:a+10*((n+1:Nat):Int)=a+10+10*(n:Int):=by omega
  have e2:o+((n+1:Nat):Int)=o+1+n:=by omega
  rw[e,e2] at h
  rw[e]
  have ih:=sq_nest X xs n (o+1) (a+10) bs (by omega) (by omega) h
  have key:∀ (n:Nat) (c:Int),shsT (n+1) c=shsT n c++shT (c+2*n):=by
   intro n
   induction n with
   | zero=>intro c;simp[shsT]
   | succ n ih=>
    intro c
    show shT c++shsT (n+1) (c+2)=(shT c++shsT n (c+2))++_
    rw[ih,z0z,show c+2+2*(n:Int)=c+2*((n+1:Nat):Int) by omega]
  have:=sq_if (by omega) (by omega) ih a (bs+2*n)
  rw[key]
  show Sq o ((ifT a++ifsT n (a+10))++_) _
  simp only[z0z] at this ⊢
  exact this
theorem pg_of{ts:List Yd}{f:Fo}(h:Sq 1 ts f)(b e:Int):∃s',En (.pg .nil) ⟨fnT 0++(ts++(shT b++[⟨Eo,e,0,0⟩])),0⟩ (Fo.one ⟨1,0,⟨#[]⟩,0,0⟩ (fnF f),s'):=by
 obtain⟨n,hn⟩:=bl_of (o:=0) (by decide) (by decide) h (7+0) b [⟨Eo,e,0,0⟩]
 have hb:=Yn (z11z n 2) _ _ _ hn
 refine⟨⟨[⟨Eo,e,0,0⟩],0⟩,max n 2+1+1,?_⟩
 unfold P
 rw[show fnT 0++(ts++(shT b++[⟨Eo,e,0,0⟩]))=yW ug (0+0)::yN k_f (3+0)::yM OM (4+0)::yM NJ (5+0)::yM Zt (7+0)::(ts++(shT b++[⟨Eo,e,0,0⟩])) from rfl,bind_ok (lookM_at rfl (by decide)),if_neg (show ¬ (2:Int)=7 by decide),if_neg (show ¬AP ⟨2,ug,0,0⟩=Lh by decide)]
 have hf:P (max n 2+1) .fu ⟨yW ug (0+0)::yN k_f (3+0)::yM OM (4+0)::yM NJ (5+0)::yM Zt (7+0)::(ts++(shT b++[⟨Eo,e,0,0⟩])),0⟩=some (.ok (fnF f,⟨[⟨Eo,e,0,0⟩],0⟩)):=by
  unfold P
  rw[bind_ok (wantM_at rfl (by decide) (show AP ⟨2,ug,0,0⟩=ug by decide))]
  have hl:∀R,P 2 (.ls true) ⟨yM OM (4+0)::yM NJ (5+0)::R,0⟩=some (.ok (.nil,⟨R,0⟩)):=λR=>by kernel_rfl
  have hname:∀R,Er ⟨yN k_f (3+0)::R,0⟩=some (.ok (yN k_f (3+0),⟨R,0⟩)):=λR=>by kernel_rfl
  show (Er.bind _) ⟨yN k_f (3+0)::_,0⟩=_
  rw[bind_ok (hname _),bind_ok (Yn (z10z n 2) _ _ _ (hl _)),bind_ok hb]
  rfl
 rw[bind_ok hf]
 exact Yn (show 1<=max n 2+1 by omega) _ _ _ (by rfl)
theorem ck_kind{L:List (Nd × Nat)}{E:List Nat}{b:Nat}{f:Fo}(h:Df L E b f)(i:Nat){p:Nd × Nat}(hp:(AJ f)[i]? = some p):Jl L (b+i)=p.1.kind:=by
 have hi:=(z14z.1 hp).1
 unfold Jl
 rw[(h i hi).1,hp]
theorem ck_text{L:List (Nd × Nat)}{E:List Nat}{b:Nat}{f:Fo}(h:Df L E b f)(i:Nat){p:Nd × Nat}(hp:(AJ f)[i]? = some p):Me L (b+i)=p.1.text:=by
 have hi:=(z14z.1 hp).1
 unfold Me
 rw[(h i hi).1,hp]
theorem endsF_app2:∀ (f g:Fo) (b:Nat),Ed b (f.app g)=Ed b f++Ed (b+(AJ f).length) g
 | .nil,g,b=>by simp[Fo.app,Ed,AJ]
 | .cons n ks r,g,b=>by
  simp only[Fo.app,Ed,AJ,endsF_app2 r g,z12z,z5z,z9z,z0z]
  rw[show b+1+(AJ ks).length+(AJ r).length=b+((AJ ks).length+(AJ r).length+1) by omega]
theorem lies_left{L:List (Nd × Nat)}{E:List Nat}{b:Nat}{f g:Fo}(h:Df L E b (f.app g)):Df L E b f:=by
 intro i hi
 have:=h i (by rw[Ei,z5z];omega)
 rw[Ei,endsF_app2,z15z hi,z15z (by rw[MK];exact hi)] at this
 exact this
theorem lies_right{L:List (Nd × Nat)}{E:List Nat}{b:Nat}{f g:Fo}(h:Df L E b (f.app g)):Df L E (b+(AJ f).length) g:=by
 intro i hi
 have:=h ((AJ f).length+i) (by rw[Ei,z5z];omega)
 rw[Ei,endsF_app2,z16z (by omega),z16z (by rw[MK];omega),MK,Nat.add_sub_cancel_left,<- Nat.add_assoc] at this
 exact this
abbrev oneK:Nd × Nat:=(⟨26,0,⟨#[]⟩,1,0⟩,0)
def Cst(l:List ((Nd × Nat) × Nat)):Prop:=l=[]\/∃m,l=[(oneK,m)]
theorem cst_bump{l:List ((Nd × Nat) × Nat)}(h:Cst l):Cst (bump l oneK):=by
 rcases h with rfl|⟨m,rfl⟩
 ·exact .inr ⟨1,rfl⟩
 ·refine .inr ⟨m+1,?_⟩
  unfold bump
  rw[if_pos (by kernel_rfl)]
theorem cst_len{l:List ((Nd × Nat) × Nat)}(h:Cst l):¬64<l.length:=by
 rcases h with rfl|⟨m,rfl⟩ <;> simp
theorem has_put(s:ByteArray)(v:Nat):∀l:List (ByteArray × Nat),(s==s)=true->DN (EM l s v) s=true
 | [],h=>by simp[EM,DN,h]
 | p::l,h=>by
  unfold EM
  split
  ·simp[DN,h]
  ·have:=has_put s v l h
   unfold DN at this ⊢
   simp[this]
theorem aa:(k_a==k_a)=true:=by kernel_rfl
section
variable (pm:List (ByteArray × Nat)) (L:List (Nd × Nat)) (E:List Nat) (R:List (Nat × Nat))
def StO(h k:Bool)(n:Nat)(c:Sc):Prop:=c.lps=[]/\c.opn.length<=n/\c.opn≠[]/\Cst c.cst/\∃s q,c.scs=s::q/\DN s k_a=h/\(c.scs.any λl=>DN l k_a)=k
def Go1(f:Fo)(h k:Bool)(n:Nat)(h' k':Bool):Prop:=∀b c,Df L E b f->StO h k n c->∃c',Dq Am pm L E R 64 f b c=some (.inr c')/\c'.opn=c.opn/\c'.scs.tail=c.scs.tail/\StO h' k' n c'
def Go2(f:Fo)(h k:Bool)(n:Nat)(x:Int):Prop:=∀b c,Df L E b f->StO h k n c->∃y,Dq Am pm L E R 64 f b c=some (.inl (x,y))
section
variable {pm:List (ByteArray × Nat)} {L:List (Nd × Nat)} {E:List Nat} {R:List (Nat × Nat)} {h k:Bool} {n:Nat}
theorem Go1.nil:Go1 pm L E R .nil h k n h k:=λb c _ hc=>⟨c,rfl,rfl,rfl,hc⟩
theorem Go1.app{f g:Fo}{h1 k1 h2 k2:Bool}(hf:Go1 pm L E R f h k n h1 k1)(hg:Go1 pm L E R g h1 k1 n h2 k2):Go1 pm L E R (f.app g) h k n h2 k2:=by
 intro b c hL hc
 obtain⟨c1,e1,o1,t1,s1⟩:=hf b c (lies_left hL) hc
 obtain⟨c2,e2,o2,t2,s2⟩:=hg _ c1 (lies_right hL) s1
 refine⟨c2,?_,o2.trans o1,t2.trans t1,s2⟩
 rw[WW,e1]
 exact e2
theorem Go1.app2{f g:Fo}{h1 k1:Bool}{x:Int}(hf:Go1 pm L E R f h k n h1 k1)(hg:Go2 pm L E R g h1 k1 n x):Go2 pm L E R (f.app g) h k n x:=by
 intro b c hL hc
 obtain⟨c1,e1,o1,t1,s1⟩:=hf b c (lies_left hL) hc
 obtain⟨y,e2⟩:=hg _ c1 (lies_right hL) s1
 refine⟨y,?_⟩
 rw[WW,e1]
 exact e2
theorem Go2.left{f g:Fo}{x:Int}(hf:Go2 pm L E R f h k n x):Go2 pm L E R (f.app g) h k n x:=by
 intro b c hL hc
 obtain⟨y,e2⟩:=hf _ c (lies_left hL) hc
 refine⟨y,?_⟩
 rw[WW,e2]
theorem go_le(hn:n<=200)(a:Int):Go1 pm L E R (leF a) false k n true true:=by
 intro b c hL ⟨hl,ho,hne,hc,s,q,hs,hh,hk⟩
 have k0:Jl L b=6:=ck_kind hL 0 (p:=(⟨6,4+a,k_a,0,0⟩,1)) rfl
 have t0:Me L b=k_a:=ck_text hL 0 (p:=(⟨6,4+a,k_a,0,0⟩,1)) rfl
 have k1:Jl L (b+1)=26:=ck_kind hL 1 (p:=(⟨26,8+a,⟨#[]⟩,1,0⟩,0)) rfl
 obtain⟨tk,op,sc,lp,cs⟩:=c
 simp only at hl ho hne hc hs hk
 subst hl hs
 have hn1:¬256<op.length:=by omega
 have hn2:¬256<op.length+1:=by omega
 refine⟨⟨tk,op,EM s k_a b::q,[],bump cs oneK⟩,?_,rfl,rfl,rfl,ho,hne,cst_bump hc,_,_,rfl,has_put _ _ _ aa,?_⟩
 ·unfold leF
  simp[Dq,Ez,Gh,Ir,JE,LJ,OH,EO,EH,EZ,AJ,Fo.len,k0,k1,t0,hn1,hn2,hh]
 ·simp[has_put _ _ _ aa]
theorem go_ou(hn:n<=200)(a:Int):Go1 pm L E R (ouF a) h true n h true:=by
 intro b c hL ⟨hl,ho,hne,hc,s,q,hs,hh,hk⟩
 have k0:Jl L b=16:=ck_kind hL 0 (p:=(⟨16,0+a,⟨#[]⟩,0,0⟩,1)) rfl
 have k1:Jl L (b+1)=25:=ck_kind hL 1 (p:=(⟨25,4+a,k_a,0,0⟩,0)) rfl
 obtain⟨tk,op,sc,lp,cs⟩:=c
 simp only at hl ho hne hc hs hk
 subst hl hs
 have hn1:¬256<op.length:=by omega
 have hn2:¬256<op.length+1:=by omega
 refine⟨⟨tk,op,s::q,[],cs⟩,?_,rfl,rfl,rfl,ho,hne,hc,_,_,rfl,hh,hk⟩
 unfold ouF
 cases h <;> simp[Dq,Ez,Gh,Ir,JE,LJ,OH,EO,EH,EZ,AJ,Fo.len,k0,k1,hn1,hn2,hh,hk]
theorem go_ou2(hn:n<=200)(a:Int):Go2 pm L E R (ouF a) h false n 63:=by
 intro b c hL ⟨hl,ho,hne,hc,s,q,hs,hh,hk⟩
 obtain⟨tk,op,sc,lp,cs⟩:=c
 simp only at hl ho hne hc hs hk
 subst hl hs
 have hn1:¬256<op.length:=by omega
 have hn2:¬256<op.length+1:=by omega
 refine⟨4+a,?_⟩
 unfold ouF
 simp[Dq,Ez,Gh,Ir,JE,LJ,OH,EO,EH,EZ,AJ,Fo.len,hn1,hn2,hk]
theorem go_la(hn:n<=200)(a:Int):Go1 pm L E R (laF a) false true n true true:=by
 intro b c hL ⟨hl,ho,hne,hc,s,q,hs,hh,hk⟩
 have k0:Jl L b=6:=ck_kind hL 0 (p:=(⟨6,4+a,k_a,0,0⟩,1)) rfl
 have t0:Me L b=k_a:=ck_text hL 0 (p:=(⟨6,4+a,k_a,0,0⟩,1)) rfl
 have k1:Jl L (b+1)=25:=ck_kind hL 1 (p:=(⟨25,8+a,k_a,0,0⟩,0)) rfl
 obtain⟨tk,op,sc,lp,cs⟩:=c
 simp only at hl ho hne hc hs hk
 subst hl hs
 have hn1:¬256<op.length:=by omega
 have hn2:¬256<op.length+1:=by omega
 refine⟨⟨tk,op,EM s k_a b::q,[],cs⟩,?_,rfl,rfl,rfl,ho,hne,hc,_,_,rfl,has_put _ _ _ aa,?_⟩
 ·unfold laF
  simp[Dq,Ez,Gh,Ir,JE,LJ,OH,EO,EH,EZ,AJ,Fo.len,k0,k1,t0,hn1,hn2,hh,hk]
 ·simp[has_put _ _ _ aa]
theorem go_la2(hn:n<=200)(a:Int):Go2 pm L E R (laF a) true true n 80:=by
 intro b c hL ⟨hl,ho,hne,hc,s,q,hs,hh,hk⟩
 obtain⟨tk,op,sc,lp,cs⟩:=c
 simp only at hl ho hne hc hs hk
 subst hl hs
 have hn1:¬256<op.length:=by omega
 have hn2:¬256<op.length+1:=by omega
 refine⟨4+a,?_⟩
 unfold laF
 simp[Dq,Ez,Gh,Ir,JE,LJ,OH,EO,EH,EZ,AJ,Fo.len,hn1,hn2,hh]
theorem if_front{f:Fo}{a:Int}(hn:n<=200){b:Nat}{c:Sc}(hL:Df L E b (ifF a f))(hc:StO h k n c):Df L E (b+3) f/\StO false k (n+2) ⟨c.taken,(b+2,c.scs.length,0)::(b,c.scs.length,0)::c.opn,[]::c.scs,[],c.cst⟩ /\
  (∀x y,Dq Am pm L E R 64 f (b+3) ⟨c.taken,(b+2,c.scs.length,0)::(b,c.scs.length,0)::c.opn,[]::c.scs,[],c.cst⟩=some (.inl (x,y))->Dq Am pm L E R 64 (ifF a f) b c=some (.inl (x,y))) /\
  (∀c3,Dq Am pm L E R 64 f (b+3) ⟨c.taken,(b+2,c.scs.length,0)::(b,c.scs.length,0)::c.opn,[]::c.scs,[],c.cst⟩=some (.inr c3)->c3.opn=(b+2,c.scs.length,0)::(b,c.scs.length,0)::c.opn->c3.scs.tail=c.scs->c3.scs≠[]->c3.lps=[]->Dq Am pm L E R 64 (ifF a f) b c=some (.inr ⟨c3.taken,c.opn,c.scs,[],c3.cst⟩)):=by
 obtain⟨hl,ho,hne,hcs,s,q,hs,hh,hk⟩:=hc
 have k0:Jl L b=9:=ck_kind hL 0 (p:=(⟨9,0+a,⟨#[]⟩,0,0⟩,2)) rfl
 have k1:Jl L (b+1)=29:=ck_kind hL 1 (p:=(⟨29,3+a,⟨#[]⟩,0,0⟩,0)) rfl
 have k2:Jl L (b+2)=5:=ck_kind hL 2 (p:=(⟨5,8+a,⟨#[]⟩,0,0⟩,f.len)) rfl
 have hLf:Df L E (b+3) f:=by
  have:=hL.kids.rest.kids
  simpa [AJ] using this
 obtain⟨tk,op,sc,lp,cs⟩:=c
 simp only at hl ho hne hcs hs hk
 subst hl hs
 have hn1:¬256<op.length:=by omega
 have hn2:¬256<op.length+1:=by omega
 refine⟨hLf,⟨rfl,by simp;omega,by simp,hcs,[],s::q,rfl,rfl,by simpa [DN] using hk⟩,λx y e=>?_,λc3 e e1 e2 e3 e4=>?_⟩
 ·unfold ifF
  simp[Dq,Ez,Gh,Ir,JE,LJ,OH,EO,EH,EZ,AJ,Fo.len,k0,k1,hn1,hn2]
  simp only[z12z] at e
  rw[e]
 ·obtain⟨tk3,op3,sc3,lp3,cs3⟩:=c3
  simp only at e1 e2 e3 e4
  subst e1 e4
  cases sc3 with
  | nil=>exact absurd rfl e3
  | cons s3 q3=>
   simp only[List.tail_cons] at e2
   subst e2
   unfold ifF
   simp[Dq,Ez,Gh,Ir,JE,LJ,OH,EO,EH,EZ,AJ,Fo.len,k0,k1,hn1,hn2]
   simp only[z12z] at e
   rw[e]
   simp[EH,k0,k1,k2]
theorem go_if{f:Fo}{h1 k1:Bool}(hn:n<=200)(a:Int)(hf:Go1 pm L E R f false k (n+2) h1 k1):Go1 pm L E R (ifF a f) h k n h k:=by
 intro b c hL hc
 obtain⟨hLf,hS,_,h2⟩:=if_front (pm:=pm) (R:=R) hn hL hc
 obtain⟨c3,e,e1,e2,e3⟩:=hf _ _ hLf hS
 obtain⟨hl,ho,hne,hcs,s,q,hs,hh,hk⟩:=hc
 obtain⟨l3,o3,n3,cs3,s3,q3,hs3,_,_⟩:=e3
 refine⟨_,h2 c3 e e1 e2 (by rw[hs3];simp) l3,rfl,rfl,rfl,ho,hne,cs3,s,q,hs,hh,hk⟩
theorem go_if2{f:Fo}{x:Int}(hn:n<=200)(a:Int)(hf:Go2 pm L E R f false k (n+2) x):Go2 pm L E R (ifF a f) h k n x:=by
 intro b c hL hc
 obtain⟨hLf,hS,h1,_⟩:=if_front (pm:=pm) (R:=R) hn hL hc
 obtain⟨y,e⟩:=hf _ _ hLf hS
 exact⟨y,h1 x y e⟩
theorem go_nest{X:Int->Fo}{k:Bool}:∀ (d:Nat) (a:Int) (h:Bool) (n:Nat),n+2*d<=200->(∀a,∃h' k',Go1 pm L E R (X a) (if d=0 then h else false) k (n+2*d) h' k')->∃h' k',Go1 pm L E R (nest X d a) h k n h' k'
 | 0,a,h,n,hn,hx=>hx a
 | d+1,a,h,n,hn,hx=>by
  obtain⟨h',k',hg⟩:=go_nest (X:=X) d (a+10) false (n+2) (by omega) (λa=>by
   obtain⟨h',k',hg⟩:=hx a
   rw[show n+2+2*d=n+2*(d+1) by omega,show (if d=0 then false else false)=(if d+1=0 then h else false) by split <;> rfl]
   exact⟨h',k',hg⟩)
  exact⟨h,k,go_if (by omega) a hg⟩
theorem go_nest2{X:Int->Fo}{k:Bool}{x:Int}:∀ (d:Nat) (a:Int) (h:Bool) (n:Nat),n+2*d<=200->(∀a,Go2 pm L E R (X a) (if d=0 then h else false) k (n+2*d) x)->Go2 pm L E R (nest X d a) h k n x
 | 0,a,h,n,hn,hx=>hx a
 | d+1,a,h,n,hn,hx=>go_if2 (by omega) a (go_nest2 (X:=X) d (a+10) false (n+2) (by omega) (λa=>by
   rw[show n+2+2*d=n+2*(d+1) by omega,show (if d=0 then false else false)=(if d+1=0 then h else false) by split <;> rfl]
   exact hx a))
end
end
def Mx(f:Fo)(d:Nat):Prop:=∀kids nth h m,He 5 kids f nth h m<=max m (h+d)
theorem mx_le(a:Int){g:Fo}{d:Nat}(h:Mx g d):Mx ((leF a).app g) (d+1):=by
 intro kids nth hh m
 have:=h kids (nth+1) (hh+1) (max m (hh+1))
 show He 5 kids (.cons _ _ (Fo.nil.app g)) nth hh m<=_
 simp[He,Dv,Ee,Fo.app,Fo.len] at this ⊢
 omega
theorem mx_nil:Mx .nil 0:=by intro kids nth h m;simp[He];try omega
theorem mx_one(g:Fo)(hg:g=.nil\/(∃a,g=laF a)\/∃a,g=ouF a):Mx g 1:=by
 intro kids nth h m
 rcases hg with rfl|⟨a,rfl⟩|⟨a,rfl⟩
 ·simp[He];try omega
 ·simp[laF,He,Dv,Ee,Fo.len]
 ·simp[ouF,He,Dv,Ee,Fo.len]
theorem mx_if(a:Int){f g:Fo}{d e:Nat}(h:Mx f d)(k:Mx g e):Mx ((ifF a f).app g) (max (max 1 d) e):=by
 intro kids nth hh m
 have h1:=h f.len 0 hh 0
 have k1:=k kids (nth+1) hh (max m (max (hh+1) (He 5 f.len f 0 hh 0)))
 show He 5 kids (.cons _ _ (Fo.nil.app g)) nth hh m<=_
 simp[He,Dv,Ee,Fo.app,Fo.len] at h1 k1 ⊢
 omega
theorem mx_nest{X:Int->Fo}{d:Nat}(hd:1<=d)(hX:∀a,Mx (X a) d):∀ (n:Nat) (a:Int),Mx (nest X n a) d
 | 0,a=>hX a
 | n+1,a=>by
  have h:=mx_if a (mx_nest hd hX n (a+10)) mx_nil
  rw[ap_nil,show max (max 1 d) 0=d by omega] at h
  exact h
theorem mx_regs{f:Fo}{d:Nat}(h:Mx f d)(hd:d<=60):Iq ⟨3,3+0,k_f,0,0⟩ (.cons ⟨5,7+0,⟨#[]⟩,0,0⟩ f .nil)<=64:=by
 have:=h f.len 0 0 0
 simp[Iq,He,Dv,Ee,Fo.len] at this ⊢
 omega
theorem ck_fn(f:Fo)(hr:Iq ⟨3,3+0,k_f,0,0⟩ (.cons ⟨5,7+0,⟨#[]⟩,0,0⟩ f .nil)<=64) :
  ((∀pm L E R,∃h k,Go1 pm L E R f false false 3 h k)->Ld 64 (fnF f)=some (0,0))/\(∀x,(∀pm L E R,Go2 pm L E R f false false 3 x)->∃y,Ld 64 (fnF f)=some (x,y)):=by
 have hl:=(Nz (.cons ⟨1,0,⟨#[]⟩,0,0⟩ (fnF f) .nil)).kids
 have hLf:=hl.kids.kids
 have k0:=ck_kind (Nz (.cons ⟨1,0,⟨#[]⟩,0,0⟩ (fnF f) .nil)) 0 (p:=(⟨1,0,⟨#[]⟩,0,0⟩,1)) rfl
 have k1:=ck_kind hl 0 (p:=(⟨3,3+0,k_f,0,0⟩,1)) rfl
 have k2:=ck_kind hl 1 (p:=(⟨5,7+0,⟨#[]⟩,0,0⟩,f.len)) rfl
 have hf:Am k_f=none:=by kernel_rfl
 unfold Ld
 rw[ABs]
 generalize hLL:AJ (.cons ⟨1,0,⟨#[]⟩,0,0⟩ (fnF f) .nil)=L at *
 generalize hEE:Ed 0 (.cons ⟨1,0,⟨#[]⟩,0,0⟩ (fnF f) .nil)=E at *
 clear hLL hEE
 have hS:StO false false 3 ⟨[(k_f,1)],[(2,2,0),(1,1,0),(0,1,0)],[[],[],[]],[],[]⟩:=⟨rfl,by simp,by simp,.inl rfl,[],_,rfl,rfl,rfl⟩
 simp only[z4z,Nat.add_zero] at hLf k0 k1 k2
 have hrr:¬ (64:Int)<(JR (Gs 1 (fnF f)) 1:Nat):=by
  have:JR (Gs 1 (fnF f)) 1<=64:=by simpa [JR,Gs,fnF] using hr
  omega
 have hg0:Fy 1 (fnF f) []=[]:=rfl
 rw[hg0]
 generalize Gs 1 (fnF f)=R at *
 generalize Fg (fnF f) []=pm at *
 constructor
 ·intro hg
  obtain⟨h,k,hg⟩:=hg pm L E R
  obtain⟨c',e,eo,et,el,eon,ene,ec,s,q,es,_,_⟩:=hg 3 _ hLf hS
  obtain⟨tk,op,sc,lp,cs⟩:=c'
  simp only at eo et el es ec
  subst eo el es
  simp only[List.tail_cons] at et
  subst et
  have hcl:=cst_len ec
  simp[fnF,Dq,Ez,Gh,Ir,JE,LJ,OH,EO,EH,EZ,AJ,Fo.len,EM,DN,hf,k0,k1,k2,e,hcl,hrr]
 ·intro x hg
  obtain⟨y,e⟩:=hg pm L E R 3 _ hLf hS
  refine⟨y,?_⟩
  simp[fnF,Dq,Ez,Gh,Ir,JE,LJ,OH,EO,EH,EZ,AJ,Fo.len,EM,DN,hf,k0,k1,k2,e]
abbrev bl(v:List UInt8):List UInt8:=v++[32]
def tS(m d:Nat):List UInt8:=fnB++32::(rp (bl ifB) m++(leB++32::rp (bl ifB) d))
def abS(zb:List UInt8)(m d:Nat):List UInt8:=tS m d++(zb++32::(rp (bl shB) (m+d)++[125]))
def cS(m d:Nat):List UInt8:=tS (m+1) d++(rp (bl shB) (d+1)++(ouB++32::(rp (bl shB) m++[125])))
theorem rp_len(w:List UInt8):∀n,(rp w n).length=n*w.length
 | 0=>by simp[rp]
 | n+1=>by simp[rp,rp_len w n,Nat.succ_mul];omega
theorem rp_add(w:List UInt8)(n:Nat):∀m,rp w (m+n)=rp w m++rp w n
 | 0=>by simp[rp]
 | m+1=>by rw[show m+1+n=(m+n)+1 by omega];simp[rp,rp_add w n m]
theorem shsT_add(n:Nat):∀ (m:Nat) (a:Int),shsT (m+n) a=shsT m a++shsT n (a+2*m)
 | 0,a=>by rw[z4z,show a+2*((0:Nat):Int)=a by omega];rfl
 | m+1,a=>by
  rw[show m+1+n=(m+n)+1 by omega]
  show shT a++shsT (m+n) (a+2)=(shT a++shsT m (a+2))++_
  rw[shsT_add n m,z0z,show a+2+2*(m:Int)=a+2*((m+1:Nat):Int) by omega]
theorem ifsT_add(n:Nat):∀ (m:Nat) (a:Int),ifsT (m+n) a=ifsT m a++ifsT n (a+10*m)
 | 0,a=>by rw[z4z,show a+10*((0:Nat):Int)=a by omega];rfl
 | m+1,a=>by
  rw[show m+1+n=(m+n)+1 by omega]
  show ifT a++ifsT (m+n) (a+10)=(ifT a++ifsT m (a+10))++_
  rw[ifsT_add n m,z0z,show a+10+10*(m:Int)=a+10*((m+1:Nat):Int) by omega]
def XF(Z:Int->Fo)(d:Nat)(a:Int):Fo:=(leF a).app (nest Z d (a+11))
def XT(zs:Int->List Yd)(d:Nat)(b a:Int):List Yd:=leT a++(ifsT d (a+11)++(zs (a+11+10*d)++shsT d b))
theorem hd_ifs{d:Nat}{a:Int}{R:List Yd}(h:Hd1 R):Hd1 (ifsT d a++R):=by
 cases d with
 | zero=>exact h
 | succ d=>
  show Hd1 ((ifT a++_)++R)
  rw[z0z]
  exact hd_if a _
theorem hd_shs{d:Nat}{a:Int}{R:List Yd}(h:Hd1 R):Hd1 (shsT d a++R):=by
 cases d with
 | zero=>exact h
 | succ d=>
  show Hd1 ((shT a++_)++R)
  rw[z0z]
  exact hd_sh a _
section
variable {Z:Int->Fo} {zs:Int->List Yd} (hz:∀ (o a:Int),0<=o->o < 64->Sq o (zs a) (Z a)) (hh:∀ a R,Hd1 R->Hd1 (zs a ++ R))
include hz hh
theorem sq_x{o:Int}(h0:0<=o){d:Nat}(h1:o+d<64)(b a:Int):Sq o (XT zs d b a) (XF Z d a):=by
 refine Sq.app (sq_le (by omega) a) (sq_nest Z zs d o (a+11) b h0 h1 (hz _ _ (by omega) h1)) λR hR=>?_
 rw[z0z]
 refine hd_ifs ?_
 rw[z0z]
 exact hh _ _ (hd_shs hR)
theorem ab_ends(zb:List UInt8)(zl:Nat)(hlx:∀ (B:List UInt8) (a:Nat),T (zb++32::B) a=zs a++T B (a+zl))(hzl:zb.length<=20)(m d:Nat)(hm:m+d<=40):∃s',Ends (abS zb m d) (.ok (Fo.one ⟨1,0,⟨#[]⟩,0,0⟩ (fnF (nest (XF Z d) m 9)),s')):=by
 have hl:(abS zb m d).length<=6000:=by
  unfold abS tS
  simp[rp_len,fnB,ifB,leB,shB]
  omega
 have e:T (abS zb m d) 0=fnT 0++((ifsT m 9++(XT zs d ((9+10*m+11+10*d+zl:Nat):Int) (9+10*m)++shsT m (((9+10*m+11+10*d+zl:Nat):Int)+2*d)))++(shT ((9+10*m+11+10*d+zl+2*(m+d):Nat):Int)++[⟨Eo,((9+10*m+11+10*d+zl+2*(m+d)+1:Nat):Int),0,0⟩])):=by
  unfold abS tS XT
  simp only[z0z,z9z]
  rw[lx_fn,lx_ifs,lx_le,lx_ifs,hlx,lx_shs,lx_last,Nat.add_comm m d,shsT_add]
  simp only[z4z,z0z]
  rw[show ((9:Nat):Int)=9 from rfl,show ((9+10*m:Nat):Int)=9+10*(m:Int) by omega,show ((9+10*m+11:Nat):Int)=9+10*(m:Int)+11 by omega,show ((9+10*m+11+10*d:Nat):Int)=9+10*(m:Int)+11+10*(d:Int) by omega]
  rfl
 obtain⟨s',n,hn⟩:=pg_of (sq_nest (XF Z d) (XT zs d ((9+10*m+11+10*d+zl:Nat):Int)) m 1 9 (((9+10*m+11+10*d+zl:Nat):Int)+2*d) (by decide) (by omega) (sq_x hz hh (by omega) (by omega) _ _)) ((9+10*m+11+10*d+zl+2*(m+d):Nat):Int) ((9+10*m+11+10*d+zl+2*(m+d)+1:Nat):Int)
 refine⟨s',n,?_⟩
 rw[WI _ (by omega),e]
 exact hn
end
def YF(d:Nat)(a:Int):Fo:=(ifF a (XF (λ_=>.nil) d (a+10))).app (ouF (a+10+11+10*d+2*(d+1)))
def YT(d:Nat)(b c a:Int):List Yd:=ifT a++(XT (λ_=>[]) d b (a+10)++shT c)++ouT (a+10+11+10*d+2*(d+1))
theorem sq_y{o:Int}(h0:0<=o){d:Nat}(h1:o+1+d<64)(b c a:Int):Sq o (YT d b c a) (YF d a):=
 Sq.app (sq_if (by omega) (by omega) (sq_x (λo a _ _=>Sq.nil o) (λa R h=>h) (by omega) h1 b (a+10)) a c) (sq_ou (by omega) _) λR hR=>hd_ou _ _
theorem c_ends(m d:Nat)(hm:m+1+d<=40):∃s',Ends (cS m d) (.ok (Fo.one ⟨1,0,⟨#[]⟩,0,0⟩ (fnF (nest (YF d) m 9)),s')):=by
 have hl:(cS m d).length<=6000:=by
  unfold cS tS
  simp[rp_len,fnB,ifB,leB,shB,ouB]
  omega
 have e:T (cS m d) 0=fnT 0++((ifsT m 9++(YT d ((9+10*(m+1)+11+10*d:Nat):Int) (((9+10*(m+1)+11+10*d:Nat):Int)+2*d) (9+10*m)++shsT m ((9+10*(m+1)+11+10*d+2*(d+1)+7:Nat):Int)))++(shT ((9+10*(m+1)+11+10*d+2*(d+1)+7+2*m:Nat):Int)++[⟨Eo,((9+10*(m+1)+11+10*d+2*(d+1)+7+2*m+1:Nat):Int),0,0⟩])):=by
  unfold cS tS YT XT
  simp only[z0z,z9z]
  rw[lx_fn,lx_ifs,lx_le,lx_ifs,lx_shs,lx_ou,lx_shs,lx_last,shsT_add 1 d,ifsT_add 1 m]
  simp only[z4z,z0z,ifsT,shsT,List.append_nil,List.nil_append]
  rw[show ((9:Nat):Int)=9 from rfl,show ((9+10*(m+1):Nat):Int)=9+10*(m:Int)+10 by omega,show ((9+10*(m+1)+11:Nat):Int)=9+10*(m:Int)+10+11 by omega,show ((9+10*(m+1)+11+10*d+2*(d+1):Nat):Int)=9+10*(m:Int)+10+11+10*(d:Int)+2*((d:Int)+1) by omega]
  rfl
 obtain⟨s',n,hn⟩:=pg_of (sq_nest (YF d) (YT d ((9+10*(m+1)+11+10*d:Nat):Int) (((9+10*(m+1)+11+10*d:Nat):Int)+2*d)) m 1 9 ((9+10*(m+1)+11+10*d+2*(d+1)+7:Nat):Int) (by decide) (by omega) (sq_y (by omega) (by omega) _ _ _)) ((9+10*(m+1)+11+10*d+2*(d+1)+7+2*m:Nat):Int) ((9+10*(m+1)+11+10*d+2*(d+1)+7+2*m+1:Nat):Int)
 refine⟨s',n,?_⟩
 rw[WI _ (by omega),e]
 exact hn
theorem ab_len(zb:List UInt8)(hzl:zb.length<=20)(m d:Nat)(hm:m+d<=40):(abS zb m d).length<=6000:=by
 unfold abS tS
 simp[rp_len,fnB,ifB,leB,shB]
 omega
theorem c_len(m d:Nat)(hm:m+1+d<=40):(cS m d).length<=6000:=by
 unfold cS tS
 simp[rp_len,fnB,ifB,leB,shB,ouB]
 omega
theorem hz_ou(o a:Int)(h0:0<=o)(h1:o<64):Sq o (ouT a) (ouF a):=sq_ou (by omega) a
theorem hz_la(o a:Int)(h0:0<=o)(h1:o<64):Sq o (laT a) (laF a):=sq_la (by omega) a
theorem mx_x{Z:Int->Fo}(hZ:∀a,Mx (Z a) 1)(d:Nat)(a:Int):Mx (XF Z d a) 2:=mx_le a (mx_nest (by decide) hZ d _)
theorem mx_y(d:Nat)(a:Int):Mx (YF d a) 2:=by
 have h:=mx_if a (mx_x (λa=>mx_one _ (.inl rfl)) d (a+10)) (mx_one (ouF (a+10+11+10*d+2*(d+1))) (.inr (.inr ⟨_,rfl⟩)))
 exact h
section
variable {pm:List (ByteArray × Nat)} {L:List (Nd × Nat)} {E:List Nat} {R:List (Nat × Nat)}
theorem ite_same(c:Prop)[Decidable c](b:Bool):(if c then b else b)=b:=by split <;> rfl
theorem go_x{Z:Int->Fo}{d n:Nat}(hn:n+2*d<=200)(h:∀a,∃h' k',Go1 pm L E R (Z a) (if d=0 then true else false) true (n+2*d) h' k')(a:Int):∃h' k',Go1 pm L E R (XF Z d a) false false n h' k':=by
 obtain⟨h',k',hg⟩:=go_nest d (a+11) true n hn h
 exact⟨h',k',(go_le (by omega) a).app hg⟩
theorem go_top{X:Int->Fo}{m d:Nat}(hm:2*m+2*d<=160)(h:∀a n,n+2*d<=190->∃h' k',Go1 pm L E R (X a) false false n h' k'):∃h' k',Go1 pm L E R (nest X m 9) false false 3 h' k':=
 go_nest m 9 false 3 (by omega) λa=>by rw[ite_same];exact h a _ (by omega)
theorem go_top2{X:Int->Fo}{m d:Nat}{x:Int}(hm:2*m+2*d<=160)(h:∀a n,n+2*d<=190->Go2 pm L E R (X a) false false n x):Go2 pm L E R (nest X m 9) false false 3 x:=
 go_nest2 m 9 false 3 (by omega) λa=>by rw[ite_same];exact h a _ (by omega)
end
theorem ck_a(m d:Nat)(hm:m+d<=40):Ld 64 (fnF (nest (XF ouF d) m 9))=some (0,0):=
 (ck_fn _ (mx_regs (mx_nest (by decide) (mx_x (λa=>mx_one _ (.inr (.inr ⟨a,rfl⟩))) d) m 9) (by decide))).1 λpm L E R=>go_top (d:=d) (by omega) λa n hn=>go_x (by omega) (λa=>⟨_,_,go_ou (by omega) a⟩) a
theorem ck_b(m d:Nat)(hm:m+(d+1)<=40):Ld 64 (fnF (nest (XF laF (d+1)) m 9))=some (0,0):=
 (ck_fn _ (mx_regs (mx_nest (by decide) (mx_x (λa=>mx_one _ (.inr (.inl ⟨a,rfl⟩))) (d+1)) m 9) (by decide))).1 λpm L E R=>go_top (d:=d+1) (by omega) λa n hn=>go_x (by omega) (λa=>⟨_,_,by rw[if_neg (by omega)];exact go_la (by omega) a⟩) a
theorem ck_b0(m:Nat)(hm:m<=40):∃y,Ld 64 (fnF (nest (XF laF 0) m 9))=some (80,y):=
 (ck_fn _ (mx_regs (mx_nest (by decide) (mx_x (λa=>mx_one _ (.inr (.inl ⟨a,rfl⟩))) 0) m 9) (by decide))).2 80 λpm L E R=>go_top2 (d:=0) (by omega) λa n hn=>(go_le (by omega) a).app2 (go_la2 (by omega) _)
theorem ck_c(m d:Nat)(hm:m+1+d<=40):∃y,Ld 64 (fnF (nest (YF d) m 9))=some (63,y):=
 (ck_fn _ (mx_regs (mx_nest (by decide) (mx_y d) m 9) (by decide))).2 63 λpm L E R=>go_top2 (d:=d+1) (by omega) λa n hn=>by
  obtain⟨h',k',hg⟩:=go_x (pm:=pm) (L:=L) (E:=E) (R:=R) (Z:=λ_=>.nil) (d:=d) (n:=n+2) (by omega) (λa=>⟨_,_,Go1.nil⟩) (a+10)
  exact(go_if (by omega) a hg).app2 (go_ou2 (by omega) _)
theorem rd_src{l:List UInt8}{u:Fo}(hl:l.length<=6000)(h:∃s',Ends l (.ok (Fo.one ⟨1,0,⟨#[]⟩,0,0⟩ u,s'))):Rd l u:=by
 obtain⟨s',h⟩:=h
 obtain⟨u',hu,hR⟩:=eG hl h
 cases hu
 exact hR
def mkS(l:List UInt8):ByteArray:=⟨l.toArray⟩
theorem mk_data(l:List UInt8):(mkS l).data.toList=l:=rfl
theorem mk_size{l:List UInt8}(h:l.length<=6000):(mkS l).size<=1000000:=by
 rw[<- Ao,mk_data]
 omega
theorem ld_a(m d:Nat)(hm:m+d<=40):∃L,Td (mkS (abS ouB m d)) L:=
 ⟨_,(rd_src (l:=(mkS (abS ouB m d)).data.toList) (ab_len ouB (by decide) m d hm) (ab_ends hz_ou (λa R _=>hd_ou a R) ouB 7 lx_ou (by decide) m d hm)).good (mk_size (ab_len ouB (by decide) m d hm)) (ck_a m d hm)⟩
theorem ld_b(m d:Nat)(hm:m+(d+1)<=40):∃L,Td (mkS (abS laB m (d+1))) L:=
 ⟨_,(rd_src (l:=(mkS (abS laB m (d+1))).data.toList) (ab_len laB (by decide) m (d+1) hm) (ab_ends hz_la (λa R _=>hd_la a R) laB 11 lx_la (by decide) m (d+1) hm)).good (mk_size (ab_len laB (by decide) m (d+1) hm)) (ck_b m d hm)⟩
theorem ld_b0(m:Nat)(hm:m<=40):∃y,RY (mkS (abS laB m 0)) 80 y:=by
 obtain⟨y,hy⟩:=ck_b0 m hm
 exact⟨y,(rd_src (l:=(mkS (abS laB m 0)).data.toList) (ab_len laB (by decide) m 0 hm) (ab_ends hz_la (λa R _=>hd_la a R) laB 11 lx_la (by decide) m 0 hm)).bad (mk_size (ab_len laB (by decide) m 0 hm)) (by decide) hy⟩
theorem ld_c(m d:Nat)(hm:m+1+d<=40):∃y,RY (mkS (cS m d)) 63 y:=by
 obtain⟨y,hy⟩:=ck_c m d hm
 exact⟨y,(rd_src (l:=(mkS (cS m d)).data.toList) (c_len m d hm) (c_ends m d hm)).bad (mk_size (c_len m d hm)) (by decide) hy⟩
end Go.Proofs.YtjplieobnknnpaaGreatDoor.W.Tr
namespace Go.Proofs.YtjplieobnknnpaaGreatDoor.W.Cs
open Go.ChangeShapes Go.WideShapes Go.RowKit Go.Shelf
set_option linter.unusedVariables false
set_option linter.unusedSimpArgs false
def Hd(p:Prop):Prop:=p
theorem hd{p:Prop}(h:p):Hd p:=h
theorem Hd.out{p:Prop}(h:Hd p):p:=h
theorem bdn{B:Nat}{a w:World}(h:Below B a w)(n:Nat):Below B a (w.drewN n):=⟨h.os,h.tape,h.output,h.size,h.block⟩
theorem wr6(n:Int)(h0:0<=n)(h:n<=1000000):wrap64 n=n:=by unfold wrap64;omega
theorem wri(n:Int)(h0:0<=n)(h:n<=1000000):z3z.wrap n=n:=by rw[IntKind.wrap_i64];omega
theorem up1{m n:Nat}(h:n<=100000)(hm:m<=n):(0:Int)<=(m:Int)+1/\(m:Int)+1<=1000000:=by omega
theorem up2{m n:Nat}(h:n<=100000)(hm:m+1<=n):(0:Int)<=(m:Int)+1+1/\(m:Int)+1+1<=1000000:=by omega
theorem up0{m n:Nat}(h:n<=100000)(hm:m<=n):(0:Int)<=(m:Int)/\(m:Int)<=1000000:=by omega
def Nds(w:World)(g nn:Nat)(ki:Nat->Int)(tx:Nat->ByteArray):Prop:=g<w.heap.size/\∀i,i<nn->w.cell? ⟨g,i*6,none⟩=some (.int .i64 (ki i))/\w.cell? ⟨g,i*6+3,none⟩=some (.string (tx i))
theorem Nds.below{w w':World}{g nn:Nat}{ki:Nat->Int}{tx:Nat->ByteArray}(h:Nds w g nn ki tx)(hB:Below w.heap.size w w'):Nds w' g nn ki tx:=⟨Nat.lt_of_lt_of_le h.1 hB.size,λi hi=>⟨(hB.cell (p:=⟨g,_,none⟩) h.1).trans (h.2 i hi).1,(hB.cell (p:=⟨g,_,none⟩) h.1).trans (h.2 i hi).2⟩⟩
def Oz(w:World)(o:Option Addr)(xs:List Int):Prop:=∀ (j:Nat) (x:Int),xs[j]? = some x->∃g,o=some ⟨g,0,none⟩/\g<w.heap.size/\w.cell? ⟨g,j,none⟩=some (.int .i64 x)
theorem Oz.below{w w':World}{o:Option Addr}{xs:List Int}(h:Oz w o xs)(hB:Below w.heap.size w w'):Oz w' o xs:=λj x hx=>by
 obtain⟨g,e,h1,h2⟩:=h j x hx
 exact⟨g,e,Nat.lt_of_lt_of_le h1 hB.size,(hB.cell (p:=⟨g,_,none⟩) h1).trans h2⟩
def five(l:List UInt8):Bool:=l==[38]||l==[124]||l==[94]||l==[60,60]||l==[62,62]
def opC(c:Nat):Prop:=c=43\/c=45\/c=42\/c=47\/c=37\/c=60\/c=62\/c=61\/c=33
section
variable (s:ByteArray) (hs:s.size<=6000) (nn:Nat) (hnn:nn<=100000) (ki:Nat->Int) (tx:Nat->ByteArray) (cnt:Nat->Nat) (hc0:cnt 0=0) (hc1:∀ i,i < nn->cnt (i + 1)=cnt i + (if (ki i == 21)=true/\five (tx i).toList=false then 1 else 0)) (hcb:∀ i,cnt i<=i)
 (xs:List Int) (hxl:xs.length<=100000) (hfin:cnt nn=xs.length)
 (hxs:∀ (j:Nat) (x:Int),xs[j]? = some x->∃k:Nat,x=(k:Int)/\∃h:k<s.size,opC s[k].toNat) (hrise:∀ (i:Nat) (a b:Int),xs[i]? = some a->xs[i+1]? = some b->a<b)
 (w:World) (J:World->Nat->Nat->Prop) (hJ:∀w1 g cap,J w1 g cap->Nds w1 g nn ki tx) (hJb:∀w1 w2 g cap,J w1 g cap->Below w1.heap.size w1 w2->J w2 g cap)
 (cA:Calls prog 7 #[.string s] w λe w'=>∃g cap,e=.returned (.tuple #[.slice (some ⟨g,0,none⟩) nn cap,.agg #[.int .i64 0,.int .i64 0]])/\Below w.heap.size w w'/\J w' g cap)
 (cS:∀w1 g cap,Below w.heap.size w w1->J w1 g cap->Calls prog 18 #[.slice (some ⟨g,0,none⟩) nn cap] w1 λe w'=>∃o cp,e=.returned (.slice o xs.length cp)/\Below w1.heap.size w1 w'/\Oz w' o xs)
 (cW:∀w1,Below w.heap.size w w1->Calls prog 10 #[] w1 λe w'=>e=.returned (.bool true)/\Below w1.heap.size w1 w')
include hs hnn hc0 hc1 hcb hxl hfin hxs hrise hJ hJb cA cS cW
end
theorem hsx{W:World}{b:Nat}{c:List Value}{t:TypeId}(hb:W.heap[b]? = some (.cells c.toArray t (0,0)))(j:Nat)(u:Value):(W.setCell ⟨b,j,none⟩ u).heap[b]? = some (.cells (c.set j u).toArray t (0,0)):=by
 simp only[z7z,Array.getElem?_modify]
 rw[hb]
 simp
theorem set_pair{w a:World}{g B:Nat}{z0 z1:Value}{t:TypeId}(hg:w.heap[g]? = some (.cells #[z0,z1] t (0,0)))(hB:Below B a w)(hb:B<=g)(v0 v1:Value) :
  ((w.setCell ⟨g,0,none⟩ v0).setCell ⟨g,1,none⟩ v1).heap[g]? = some (.cells #[v0,v1] t (0,0))/\Below B a ((w.setCell ⟨g,0,none⟩ v0).setCell ⟨g,1,none⟩ v1):=by
 have h0:w.heap[g]? = some (.cells [z0,z1].toArray t (0,0)):=hg
 exact⟨hsx (hsx h0 0 v0) 1 v1,(hB.setCell (p:=⟨g,0,none⟩) hb v0).setCell (p:=⟨g,1,none⟩) hb v1⟩
theorem set_one{w a:World}{k g B:Nat}{o:Obj}{z0 z1:Value}{t:TypeId}(hk:w.heap[k]? = some o)(hg:w.heap[g]? = some (.cells #[z0,z1] t (0,0)))(hne:k≠g)(hB:Below B a w)(hb:B<=g)(v0 v1:Value) :
  ((w.setCell ⟨g,0,none⟩ v0).setCell ⟨g,1,none⟩ v1).heap[g]? = some (.cells #[v0,v1] t (0,0))/\((w.setCell ⟨g,0,none⟩ v0).setCell ⟨g,1,none⟩ v1).heap[k]? = some o/\Below B a ((w.setCell ⟨g,0,none⟩ v0).setCell ⟨g,1,none⟩ v1):=by
 have h0:w.heap[g]? = some (.cells [z0,z1].toArray t (0,0)):=hg
 refine⟨hsx (hsx h0 0 v0) 1 v1,?_,(hB.setCell (p:=⟨g,0,none⟩) hb v0).setCell (p:=⟨g,1,none⟩) hb v1⟩
 rw[Below.heap_setCell _ _ _ _ hne,Below.heap_setCell _ _ _ _ hne,hk]
theorem set_both{w a:World}{k g B:Nat}{z0 z1 v0 v1:Value}{t u:TypeId}(hk:w.heap[k]? = some (.cells #[v0,v1] u (0,0)))(hg:w.heap[g]? = some (.cells #[z0,z1] t (0,0)))(hne:k≠g)(hB:Below B a w)(hb:B<=g) :
  ((w.setCell ⟨g,0,none⟩ v0).setCell ⟨g,1,none⟩ v1).heap[g]? = some (.cells #[v0,v1] t (0,0))/\((w.setCell ⟨g,0,none⟩ v0).setCell ⟨g,1,none⟩ v1).heap[k]? = some (.cells #[v0,v1] u (0,0))/\Below B a ((w.setCell ⟨g,0,none⟩ v0).setCell ⟨g,1,none⟩ v1):=set_one hk hg hne hB hb v0 v1
def sl:Nat->List UInt8
 | 0=>[]
 | n+1=>sl n++[125,32]
def tl(m:Nat):Nat->List UInt8
 | 0=>[102,110,32,102,40,41,32,123,32]
 | i+1=>tl m i++(if i=m then [108,101,116,32,97,32,61,32,49,59,32] else [])++[105,102,32,116,114,117,101,32,123,32]
def tf(m n:Nat):List UInt8:=tl m n++(if m=n then [108,101,116,32,97,32,61,32,49,59,32] else [])
theorem ZQ:(prog.info? 5).map (λi=>(i.zero,i.size,i.bytes))=some (some (.int .u8 0),1,1):=by kernel_rfl
def bv(l:List UInt8):List Value:=l.map λb=>Value.int .u8 b.toNat
theorem sl_len:∀n,(sl n).length=2*n
 | 0=>rfl
 | n+1=>by
  show (sl n++[125,32]).length=_
  rw[z5z,sl_len n]
  simp
  omega
theorem sz_of{u:ByteArray}{l:List UInt8}(h:u.data.toList=l):u.size=l.length:=by
 rw[<- h,Array.length_toList]
 rfl
theorem tl_len(m:Nat):∀i,(tl m i).length<=9+21*i
 | 0=>z2z _
 | i+1=>by
  have h:=tl_len m i
  simp only[tl,z5z]
  split <;> simp <;> omega
theorem text_c(n:Nat)(hn:n<=40)(w:World):Calls prog 9 #[.string ⟨#[125,32]⟩,.int .i64 n] w λe w'=>∃u,e=.returned (.string u)/\u.data.toList=sl n/\Below w.heap.size w w':=by
 obtain⟨i0,hi,hz0,hz1,hz2⟩:∃i0,prog.info? 5=some i0/\i0.zero=some (.int .u8 0)/\i0.size=1/\i0.bytes=1:=by
  obtain⟨i0,h1,h2⟩:=Option.map_eq_some_iff.1 ZQ
  simp only[Prod.mk.injEq] at h2
  exact⟨i0,h1,h2.1,h2.2.1,h2.2.2⟩
 go_enter func9,ntmps9
 go_upto_region 2 with fail
 have g0:=World.alloc_heap_new w (.cells #[] 5)
 have b0:Below w.heap.size w (w.alloc (.cells #[] 5)):=(z6z _ w).alloc (z2z _) _
 have ow:(w.alloc (.cells #[] 5)).ownsRow w.heap.size 5 1 (.slice (some ⟨w.heap.size,0,none⟩) 0 0) (2*0) (bv (sl 0)):=⟨rfl,.inr ⟨w.heap.size,0,#[],rfl,z2z _,g0,z2z _,z8z _,rfl,rfl⟩⟩
 go_wp2
 go_loopw [5,6] (λbb ii wr=>∃i:Nat,ii=.int .i64 (i:Nat)/\i<=n/\wr.ownsRow w.heap.size 5 1 bb (2*i) (bv (sl i))/\Below w.heap.size w wr/\∃g c,bb=.slice (some ⟨g,0,none⟩) (2*i) c) (λ_ ii _=>n-(intOf ii).toNat)
 case atStart=>exact⟨0,rfl,z8z _,ow,b0,_,_,rfl⟩
 case round=>
  obtain⟨i,rfl,hi1,hown,hB,g,c,rfl⟩:=hrel
  have HB:=hd hB
  have HO:=hd hown
  clear hB ow b0 g0
  by_cases hin:i<n
  ·have m1:((i:Nat):Int)<n:=by omega
   have HM:=hd (show n-(intOf (.int .i64 ((i:Int)+1))).toNat<n-(intOf (.int .i64 (i:Int))).toNat by show n-((i:Int)+1).toNat<n-((i:Int)).toNat;omega)
   have wk:z3z.wrap ((i:Int)+1)=(i:Int)+1:=wri _ (by omega) (by omega)
   have wk':wrap64 ((i:Int)+1)=(i:Int)+1:=wr6 _ (by omega) (by omega)
   have HIN:=hd hin
   clear hin hown
   go_wp2_with (at_builtin;refine Lib.wpList_append_own_string _ rfl _ _ 36 9 rfl w.heap.size 5 i0 underlying36 underlying9 hi hz0 hz1 hz2 _ _ _ rfl HO.out ⟨#[125,32]⟩ rfl ?c3 ?c4 ?c5 ?_)
   case c3=>show 2*i+2<=_;unfold maxLen;omega
   case c4=>show 2*i+2<=_;omega
   case c5=>exact HB.out.size
   intro v' w2 hown' hgrow hnil
   have hb2:=hd (HB.out.grown hgrow HB.out.size (λk e=>by cases e;exact(HO.out.lt _ rfl).1))
   have ho2:=hd hown'
   obtain⟨g',c',rfl⟩:∃g' c',v'=.slice (some ⟨g',0,none⟩) (2*i+2) c':=by
    rcases hown'.2 with⟨_,h0⟩|⟨g',c',cur,hv,_⟩
    ·exact absurd h0 (by show ¬2*i+2=0;omega)
    ·exact⟨g',c',hv⟩
   clear hown' hgrow hnil
   go_wp2
   exact⟨⟨i+1,rfl,HIN.out,by have h:=ho2.out;unfold bv;rw[show sl (i+1)=sl i++[125,32] from rfl,List.map_append];exact h,hb2.out,g',c',rfl⟩,HM.out⟩
  ·obtain rfl:i=n:=by omega
   have hcv:=run_convert_bytes_back (P:=prog) wr 36 9 5 ⟨g,0,none⟩ c (sl i) underlying36 underlying5 underlying9 (λj hj=>by
    refine hown.cells (g:=g) rfl j _ ?_
    unfold bv
    rw[List.getElem?_map,List.getElem?_eq_getElem hj]
    rfl)
   rw[sl_len] at hcv
   clear hown hi1
   go_wp2
   go_ret
   exact⟨_,rfl,rfl,HB.out⟩
theorem sc_out(D M:Int)(h:D<0\/40<D\/M<0\/D<M)(w:World):Calls prog 5 #[.int .i64 D,.int .i64 M] w λe w'=>e=.returned (.bool true)/\Below w.heap.size w w':=by
 by_cases j1:D<0
 ·clear h
  go_enter func5,ntmps5
  go_wp2
  go_ret
  exact⟨rfl,z6z _ _⟩
 by_cases j2:D>40
 ·clear h
  go_enter func5,ntmps5
  go_wp2
  go_ret
  exact⟨rfl,z6z _ _⟩
 by_cases j3:M<0
 ·clear h
  go_enter func5,ntmps5
  go_wp2
  go_ret
  exact⟨rfl,z6z _ _⟩
 ·have j4:M>D:=by omega
  clear h
  go_enter func5,ntmps5
  go_wp2
  go_ret
  exact⟨rfl,z6z _ _⟩
section
variable (n m:Nat) (hn:n<=40) (hm:m<=n) (w:World) (xB yB:Int) (hx0:m=n->xB=80) (hx1:m < n->xB=0)
 (cA:∀X:ByteArray,X.data.toList=((tf m n++[111,117,116,32,97,59,32])++sl n)++[125]->∀w1,Below w.heap.size w w1->Calls prog 7 #[.string X] w1 λe w'=>∃r,e=.returned (.tuple #[r,.agg #[.int .i64 0,.int .i64 0]])/\Below w1.heap.size w1 w')
 (cB:∀X:ByteArray,X.data.toList=((tf m n++[108,101,116,32,97,32,61,32,97,59,32])++sl n)++[125]->∀w1,Below w.heap.size w w1->Calls prog 7 #[.string X] w1 λe w'=>∃r,e=.returned (.tuple #[r,.agg #[.int .i64 xB,.int .i64 yB]])/\Below w1.heap.size w1 w')
 (cC:n≠0->m≠0->∃y,∀X:ByteArray,X.data.toList=(((tf m n++sl (n-m+1))++[111,117,116,32,97,59,32])++sl (m-1))++[125]->∀w1,Below w.heap.size w w1->Calls prog 7 #[.string X] w1 λe w'=>∃r,e=.returned (.tuple #[r,.agg #[.int .i64 63,.int .i64 y]])/\Below w1.heap.size w1 w')
 (cW:∀w1,Below w.heap.size w w1->Calls prog 10 #[] w1 λe w'=>e=.returned (.bool true)/\Below w1.heap.size w1 w')
include hn hm hx0 hx1 cA cB cC cW
theorem sc_in:Calls prog 5 #[.int .i64 n,.int .i64 m] w λe w'=>e=.returned (.bool true)/\Below w.heap.size w w':=by
 have j1:¬ (n:Int)<0:=by omega
 have j2:¬ (n:Int)>40:=by omega
 have j3:¬ (m:Int)<0:=by omega
 have j4:¬ (m:Int)>n:=by omega
 have HN:=hd (z1z hn hm)
 have HX:=hd (z1z hx0 hx1)
 have CA:=hd cA
 have CB:=hd cB
 have CC:=hd cC
 have CW:=hd cW
 clear hn hm hx0 hx1 cA cB cC cW
 go_enter func5,ntmps5
 go_upto_region 5 with fail
 clear j1 j2 j3 j4
 go_loopw [5,6] (λtt ii wr=>∃ (i:Nat) (u:ByteArray),ii=.int .i64 (i:Nat)/\i<=n/\tt=.string u/\u.data.toList=tl m i/\wr=w) (λ_ ii _=>n-(intOf ii).toNat)
 case atStart=>exact⟨0,_,rfl,z8z _,rfl,rfl,rfl⟩
 case round=>
  obtain⟨i,u,rfl,hi,rfl,hu,rfl⟩:=hrel
  have hn:=HN.out.1
  have hus:u.size<=9+21*i:=by rw[sz_of hu];exact tl_len m i
  by_cases hin:i<n
  ·have m1:((i:Nat):Int)<n:=by omega
   have HM:=hd (show n-(intOf (.int .i64 ((i:Int)+1))).toNat<n-(intOf (.int .i64 (i:Int))).toNat by show n-((i:Int)+1).toNat<n-((i:Int)).toNat;omega)
   have wk:z3z.wrap ((i:Int)+1)=(i:Int)+1:=wri _ (by omega) (by omega)
   have wk':wrap64 ((i:Int)+1)=(i:Int)+1:=wr6 _ (by omega) (by omega)
   have HIN:=hd hin
   have HU:=hd hu
   have z1:¬9223372036854775807<u.size+11:=by omega
   have z2:¬9223372036854775807<u.size+11+10:=by omega
   have z3:¬9223372036854775807<u.size+10:=by omega
   clear hin hu hn hi hus
   by_cases him:i=m
   ·subst him
    go_wp2
    exact⟨⟨i+1,_,rfl,HIN.out,rfl,by simp[ByteArray.data_append,HU.out,tl],trivial⟩,HM.out⟩
   ·have q1:¬ ((i:Nat):Int)=m:=by omega
    go_wp2
    exact⟨⟨i+1,_,rfl,HIN.out,rfl,by simp[ByteArray.data_append,HU.out,tl,him],trivial⟩,HM.out⟩
  ·obtain rfl:n=i:=by omega
   clear hin hi
   have z1:¬9223372036854775807<u.size+11:=by omega
   have hT:∃T:ByteArray,T=(if m=n then u++⟨#[108,101,116,32,97,32,61,32,49,59,32]⟩ else u)/\T.data.toList=tf m n:=by
    refine⟨_,rfl,?_⟩
    unfold tf
    split <;> simp[ByteArray.data_append,hu]
   obtain⟨T,hT,hTl⟩:=hT
   have hTs:T.size<=1000:=by
    rw[sz_of hTl]
    unfold tf
    have:=tl_len m n
    rw[z5z]
    split <;> simp <;> omega
   clear hu hus
   by_cases hmn:m=n
   case' pos=>
    have q1:(((m:Nat):Int)==(n:Nat))=true:=by simp;omega
    have q2:¬ (m:Int)<n:=by omega
    rw[if_pos hmn] at hT
    have HXX:=hd (HX.out.1 hmn)
    clear hmn
    go_upto_region 12 with fail
    rw[<- hT]
   case' neg=>
    have q1:(((m:Nat):Int)==(n:Nat))=false:=by simp;omega
    have q2:(m:Int)<n:=by have:=HN.out.2;omega
    rw[if_neg hmn] at hT
    have HXX:=hd (HX.out.2 (by have:=HN.out.2;omega))
    clear hmn
    go_upto_region 12 with fail
    rw[<- hT]
   all_goals
    clear z1 hT HX
    have zi:¬9223372036854775807<T.size+7:=by omega
    obtain⟨I,hI⟩:∃I:ByteArray,I=T++⟨#[111,117,116,32,97,59,32]⟩:=⟨_,rfl⟩
    have hIl:I.data.toList=tf m n++[111,117,116,32,97,59,32]:=by rw[hI];simp[ByteArray.data_append,hTl]
    have hIs:I.size<=1100:=by rw[sz_of hIl,z5z,<- sz_of hTl];simp;omega
    go_upto_region 15 with fail
    rw[<- hI]
    clear zi hI
    have HIL:=hd hIl
    have HTL:=hd hTl
    have HIS:=hd (z1z hIs hTs)
    have HQ:=hd (z1z q1 q2)
    clear hIl hTl hIs hTs q1 q2
    go_loopw [8,9] (λee ii wq=>∃ (i:Nat) (v:ByteArray),ii=.int .i64 (i:Nat)/\i<=n/\ee=.string v/\v.data.toList=sl i/\wq=wr) (λ_ ii _=>n-(intOf ii).toNat)
    case atStart=>exact⟨0,_,rfl,z8z _,rfl,rfl,rfl⟩
    case round=>
     obtain⟨i,v,rfl,hi,rfl,hv,rfl⟩:=hrel
     have hvs:v.size=2*i:=by rw[sz_of hv,sl_len]
     by_cases hin:i<n
     ·have m1:((i:Nat):Int)<n:=by omega
      have HM:=hd (show n-(intOf (.int .i64 ((i:Int)+1))).toNat<n-(intOf (.int .i64 (i:Int))).toNat by show n-((i:Int)+1).toNat<n-((i:Int)).toNat;omega)
      have wk:z3z.wrap ((i:Int)+1)=(i:Int)+1:=wri _ (by omega) (by omega)
      have wk':wrap64 ((i:Int)+1)=(i:Int)+1:=wr6 _ (by omega) (by omega)
      have HIN:=hd hin
      have HV:=hd hv
      have z1:¬9223372036854775807<v.size+2:=by omega
      clear hin hv hn hi hvs
      go_wp2
      exact⟨⟨i+1,_,rfl,HIN.out,rfl,by simp[ByteArray.data_append,HV.out,sl],trivial⟩,HM.out⟩
     ·obtain rfl:n=i:=by omega
      clear hin hi
      have hI:=HIS.out
      have z1:¬9223372036854775807<I.size+v.size:=by omega
      have z2:¬9223372036854775807<I.size+v.size+1:=by omega
      have z3:¬9223372036854775807<T.size+11:=by omega
      have z4:¬9223372036854775807<T.size+11+v.size:=by omega
      have z5:¬9223372036854775807<T.size+11+v.size+1:=by omega
      have HVS:=hd (z1z hv hvs)
      have ca:=CA.out (I++v++⟨#[125]⟩) (by simp[ByteArray.data_append,HIL.out,hv]) _ (z6z _ _)
      have CB:=hd (CB.out (T++⟨#[108,101,116,32,97,32,61,32,97,59,32]⟩++v++⟨#[125]⟩) (by simp[ByteArray.data_append,HTL.out,hv]))
      clear hI hv hvs CA
      go_upto_region 19 with(go_at_call 7;(with_reducible refine ca.mono ?_);rintro e w1 ⟨r,rfl,hB1⟩;(have HB1:=hd hB1);clear hB1 ca)
      have d1:=World.alloc_heap_new w1 (.cells #[.int .i64 0,.int .i64 0] 26)
      have b1:Below w1.heap.size w1 (w1.alloc (.cells #[.int .i64 0,.int .i64 0] 26)):=(z6z _ w1).alloc (z2z _) _
      have l1:=HB1.out.size
      have hb2:=HB1.out.trans (b1.mono l1)
      have cb:=CB.out _ hb2
      have HB2:=hd hb2
      have e1:=λj=>cell_of_row _ _ j _ _ _ d1
      have D1:=hd d1
      have L1:=hd l1
      clear d1 b1 l1 hb2 CB HB1
      generalize w1.alloc (.cells #[.int .i64 0,.int .i64 0] 26)=W1 at *
      generalize w1.heap.size=k at *
      go_upto_region 22 with(go_at_call 7;(with_reducible refine cb.mono ?_);rintro e w3 ⟨r3,rfl,hB3⟩;(have f3:=(hB3.block _ (z13z.1 D1.out).1).trans D1.out);(have e3:=λj=>cell_of_row _ _ j _ _ _ f3);(have t3:∀j,w3.frozen? ⟨k,j,none⟩=false:=λj=>by simp only[World.frozen?,f3];simp);(have HB3:=hd (HB2.out.trans (hB3.mono HB2.out.size)));(have F3:=hd f3);clear cb hB3 f3 e1)
      obtain⟨f4,b4⟩:=set_pair F3.out HB3.out L1.out (.int .i64 xB) (.int .i64 yB)
      have hx:=HXX.out
      have q:=HQ.out
      subst hx
      generalize hW3:z7z (z7z w3 _ _) _ _=W3 at f4 b4 ⊢
      clear hW3 e3 t3 F3 HB3 HB2 D1 z1 z2 z3 z4 z5
      have e4:=cell_of_row _ _ 0 _ _ _ f4
      simp only[List.getElem?_toArray,List.getElem?_cons_zero] at e4
      have F4:=hd f4
      have HB4:=hd b4
      have cw:=CW.out _ b4
      clear f4 b4
      obtain⟨q1,q2⟩:=q
      by_cases hn0:n=0
      ·have q3:(((n:Nat):Int)==0)=true:=by simp;omega
       clear hn0
       go_wp2_with (go_at_call 10;(with_reducible refine cw.mono ?_);rintro e w6 ⟨rfl,hB6⟩;(have HB6:=hd (HB4.out.trans (hB6.mono HB4.out.size)));clear hB6 cw)
       go_ret
       exact⟨rfl,HB6.out⟩
      by_cases hm0:m=0
      ·have q3:(((n:Nat):Int)==0)=false:=by simp;omega
       have q4:(((m:Nat):Int)==0)=true:=by simp;omega
       first
       | (exfalso;omega)
       | (clear hn0 hm0;go_wp2_with (go_at_call 10;(with_reducible refine cw.mono ?_);rintro e w6 ⟨rfl,hB6⟩;(have HB6:=hd (HB4.out.trans (hB6.mono HB4.out.size)));clear hB6 cw);go_ret;exact⟨rfl,HB6.out⟩)
      obtain⟨y,hcc⟩:=CC.out hn0 hm0
      have HCC:=hd hcc
      have q3:(((n:Nat):Int)==0)=false:=by simp;omega
      have q4:(((m:Nat):Int)==0)=false:=by simp;omega
      clear hcc hn0 cw
      go_upto_region 28 with fail
      obtain⟨d,hd1⟩:∃d:Nat,d=n-m:=⟨_,rfl⟩
      obtain⟨p,hp⟩:∃p:Nat,p=m-1:=⟨_,rfl⟩
      have hnm:=HN.out
      have wd:z3z.wrap ((n:Int)-(m:Int))=(d:Int):=by rw[show (n:Int)-(m:Int)=(d:Int) by omega];exact wri _ (by omega) (by omega)
      have wd1:z3z.wrap ((d:Int)+1)=(d:Int)+1:=wri _ (by omega) (by omega)
      have wp1:z3z.wrap ((m:Int)-1)=(p:Int):=by rw[show (m:Int)-1=(p:Int) by omega];exact wri _ (by omega) (by omega)
      have HDP:=hd (z1z (show d<=40 by omega) (show p<=40 by omega))
      have HCD:=hd (z1z hd1 hp)
      clear hnm hd1 hp q1 q2 q3 q4 hm0
      go_loopw [12,13] (λee ii wq=>∃ (i:Nat) (s:ByteArray),ii=.int .i64 (i:Nat)/\i<=d+1/\ee=.string s/\s.data.toList=sl i/\wq=W3) (λ_ ii _=>d+1-(intOf ii).toNat)
      case atStart=>exact⟨0,_,rfl,z8z _,rfl,rfl,rfl⟩
      case round=>
       obtain⟨i,s,rfl,hi,rfl,hs,rfl⟩:=hrel
       have hss:s.size=2*i:=by rw[sz_of hs,sl_len]
       have hdp:=HDP.out
       by_cases hin:i<d+1
       ·have m1:((i:Nat):Int)<(d:Int)+1:=by omega
        have HM:=hd (show d+1-(intOf (.int .i64 ((i:Int)+1))).toNat<d+1-(intOf (.int .i64 (i:Int))).toNat by show d+1-((i:Int)+1).toNat<d+1-((i:Int)).toNat;omega)
        have wk:z3z.wrap ((i:Int)+1)=(i:Int)+1:=wri _ (by omega) (by omega)
        have wk':wrap64 ((i:Int)+1)=(i:Int)+1:=wr6 _ (by omega) (by omega)
        have HIN:=hd hin
        have HS:=hd hs
        have z1:¬9223372036854775807<s.size+2:=by omega
        clear hin hs hi hss hdp
        go_wp2
        exact⟨⟨i+1,_,rfl,HIN.out,rfl,by simp[ByteArray.data_append,HS.out,sl],trivial⟩,HM.out⟩
       ·have hi2:i=d+1:=by omega
        have m1:¬ ((i:Nat):Int)<(d:Int)+1:=by omega
        have ct:=text_c p hdp.2 wr
        have hI:=HIS.out.2
        have hl:=L1.out
        have z1:¬9223372036854775807<T.size+s.size:=by omega
        have z2:¬9223372036854775807<T.size+s.size+7:=by omega
        have HSS:=hd (z1z hs (z1z hss hi2))
        have HT:=hd (z1z hI (z1z hdp hl))
        clear hs hss hi2 hI hdp hl hi hin
        go_upto_region 32 with(first|(go_at_call 9;(with_reducible refine ct.mono ?_);rintro e w4 ⟨u,rfl,hu,hB5⟩;(have f5:=(hB5.block _ (z13z.1 F4.out).1).trans F4.out);(have F5:=hd f5);(have hus:u.size=2*p:=by rw[sz_of hu,sl_len]);(have z3:¬9223372036854775807<T.size+s.size+7+u.size:=by have:=HT.out;have:=HSS.out.2;omega);(have z4:¬9223372036854775807<T.size+s.size+7+u.size+1:=by have:=HT.out;have:=HSS.out.2;omega);(have hb5:=HB4.out.trans (hB5.mono HB4.out.size));(have cc:=HCC.out (T++s++⟨#[111,117,116,32,97,59,32]⟩++u++⟨#[125]⟩) (by simp[ByteArray.data_append,HTL.out,HSS.out.1,HSS.out.2.2,hu,HCD.out.1,HCD.out.2]) _ hb5);(have HB5:=hd hb5);clear f5 hb5 hB5 ct hu hus)|(go_at_call 7;(with_reducible refine cc.mono ?_);rintro e w6 ⟨r6,rfl,hB6⟩;(have f6:=(hB6.block _ (z13z.1 F5.out).1).trans F5.out);(have e6:=λj=>cell_of_row _ _ j _ _ _ f6);(have t6:∀j,w6.frozen? ⟨k,j,none⟩=false:=λj=>by simp only[World.frozen?,f6];simp);(have HB6:=hd (HB5.out.trans (hB6.mono HB5.out.size)));(have F6:=hd f6);clear cc hB6 f6))
        obtain⟨f7,b7⟩:=set_pair F6.out HB6.out L1.out (.int .i64 63) (.int .i64 y)
        generalize hW7:z7z (z7z w6 _ _) _ _=W7 at f7 b7 ⊢
        clear hW7 e6 t6 F6 HB6
        have e7:=cell_of_row _ _ 0 _ _ _ f7
        simp only[List.getElem?_toArray,List.getElem?_cons_zero] at e7
        have cw:=CW.out _ b7
        have HB7:=hd b7
        clear f7 b7
        go_wp2_with (go_at_call 10;(with_reducible refine cw.mono ?_);rintro e w8 ⟨rfl,hB8⟩;(have HB8:=hd (HB7.out.trans (hB8.mono HB7.out.size)));clear hB8 cw)
        go_ret
        exact⟨rfl,HB8.out⟩
end
end Go.Proofs.YtjplieobnknnpaaGreatDoor.W.Cs
namespace Go.Proofs.YtjplieobnknnpaaGreatDoor.W
open Go.ChangeShapes Go.WideShapes Go.ChangeAt Go.RowKit
def laid5 : List (String × DataW Unit) := [("math/bits.deBruijn32tab", Rows.laid_math_bits_deBruijn32tab), ("math/bits.deBruijn64tab", Rows.laid_math_bits_deBruijn64tab), ("internal/strconv.uint64pow10", Rows.laid_internal_strconv_uint64pow10), ("casket/ops.kindNames", Rows.laid_casket_ops_kindNames), ("casket/lex.marks", Rows.laid_casket_lex_marks)]
theorem door5(os:Os)(args:Array Value):laidMetH prog laid5 ((World.doorLaid prog 400 os).forCall (λ_ _=>0) ⟨#[],args,[]⟩).memory:=
 laidMetH_of_parts3 (fuel:=8) (laidMet_of_run' 8 (by kernel_rfl) (by kernel_rfl)) (by kernel_rfl) (by kernel_rfl)
theorem of_laid5{W:World}(h:laidMetH prog laid5 W):Tabs W/\MarksIn W:=by
 have h4 := h.filter fun x => ["math/bits.deBruijn32tab", "math/bits.deBruijn64tab", "internal/strconv.uint64pow10", "casket/lex.marks"].contains x.1
 rw [show (laid5.filter fun x => ["math/bits.deBruijn32tab", "math/bits.deBruijn64tab", "internal/strconv.uint64pow10", "casket/lex.marks"].contains x.1) = laidV by kernel_rfl] at h4
 exact of_laid h4
end Go.Proofs.YtjplieobnknnpaaGreatDoor.W
namespace Go.Proofs.YtjplieobnknnpaaGreatDoor.W.Tr
set_option linter.unusedVariables false
set_option linter.unusedSimpArgs false
theorem sl_rp:∀n,Cs.sl n=rp (bl shB) n
 | 0=>rfl
 | n+1=>by
  show Cs.sl n++[125,32]=_
  rw[sl_rp n]
  exact rp_end (bl shB) n
theorem tl_low(m:Nat):∀i,i<=m->Cs.tl m i=fnB++32::rp (bl ifB) i
 | 0,h=>rfl
 | i+1,h=>by
  show Cs.tl m i++(if i=m then _ else [])++bl ifB=_
  rw[tl_low m i (by omega),if_neg (by omega),<- rp_end (bl ifB) i]
  simp
theorem tl_high(m:Nat):∀j,Cs.tl m (m+(j+1))=fnB++32::(rp (bl ifB) m++(leB++32::rp (bl ifB) (j+1)))
 | 0=>by
  show Cs.tl m m++(if m=m then _ else [])++bl ifB=_
  rw[tl_low m m (z2z _),if_pos rfl]
  simp[rp,fnB,ifB,leB]
 | j+1=>by
  show Cs.tl m (m+(j+1))++(if m+(j+1)=m then _ else [])++bl ifB=_
  rw[tl_high m j,if_neg (by omega),<- rp_end (bl ifB) (j+1)]
  simp
theorem tf_tS(m d:Nat):Cs.tf m (m+d)=tS m d:=by
 unfold Cs.tf tS
 cases d with
 | zero=>
  rw[Nat.add_zero,tl_low m m (z2z _),if_pos rfl]
  simp[rp,fnB,ifB,leB]
 | succ d=>
  rw[tl_high,if_neg (by omega)]
  simp
theorem mk_of{X:ByteArray}{l:List UInt8}(h:X.data.toList=l):X=mkS l:=by
 subst h
 unfold mkS
 cases X
 simp
end Go.Proofs.YtjplieobnknnpaaGreatDoor.W.Tr
namespace Go.Proofs.YtjplieobnknnpaaGreatDoor.W
set_option linter.unusedVariables false
open Go.ChangeShapes Go.WideShapes Go.RowKit Go.Shelf
theorem checkScopes_walk(D M:Int)(w0:(Lit.int .i64 D).wf=true)(w1:(Lit.int .i64 M).wf=true)(w:World)(ht:Tabs w)(hm:MarksIn w):Calls prog 5 #[.int .i64 D,.int .i64 M] w λe w'=>e=.returned (.bool true)/\Below w.heap.size w w':=by
 by_cases h:D<0\/40<D\/M<0\/D<M
 ·exact Cs.sc_out D M h w
 obtain⟨n,rfl⟩:∃n:Nat,D=n:=⟨D.toNat,by omega⟩
 obtain⟨m,rfl⟩:∃m:Nat,M=m:=⟨M.toNat,by omega⟩
 obtain⟨d,rfl⟩:∃d,n=m+d:=⟨n-m,by omega⟩
 have hn:m+d<=40:=by omega
 have cW:=λw1 (hB:Below w.heap.size w w1)=>Tr.AC0 w1 (ht.below hB) (hm.below hB)
 have good:∀ (X:ByteArray) (l:List UInt8),X.data.toList=l->(∃L,Tr.Td (Tr.mkS l) L)->∀w1,Below w.heap.size w w1->Calls prog 7 #[.string X] w1 λe w'=>∃r,e=.returned (.tuple #[r,.agg #[.int .i64 0,.int .i64 0]])/\Below w1.heap.size w1 w':=by
  rintro X l hX ⟨L,hL⟩ w1 hB
  rw[Tr.mk_of hX]
  refine(hL w1 (ht.below hB) (hm.below hB)).mono ?_
  rintro e w' ⟨g,cap,rfl,hB2,_⟩
  exact⟨_,rfl,hB2⟩
 have bad:∀ (X:ByteArray) (l:List UInt8) (x y:Int),X.data.toList=l->Tr.RY (Tr.mkS l) x y->∀w1,Below w.heap.size w w1->Calls prog 7 #[.string X] w1 λe w'=>∃r,e=.returned (.tuple #[r,.agg #[.int .i64 x,.int .i64 y]])/\Below w1.heap.size w1 w':=by
  intro X l x y hX hL w1 hB
  rw[Tr.mk_of hX]
  refine(hL w1 (ht.below hB) (hm.below hB)).mono ?_
  rintro e w' ⟨rfl,hB2⟩
  exact⟨_,rfl,hB2⟩
 have eA:((Cs.tf m (m+d)++[111,117,116,32,97,59,32])++Cs.sl (m+d))++[125]=Tr.abS Tr.ouB m d:=by
  rw[Tr.tf_tS,Tr.sl_rp]
  unfold Tr.abS
  simp[Tr.ouB]
 have eB:((Cs.tf m (m+d)++[108,101,116,32,97,32,61,32,97,59,32])++Cs.sl (m+d))++[125]=Tr.abS Tr.laB m d:=by
  rw[Tr.tf_tS,Tr.sl_rp]
  unfold Tr.abS
  simp[Tr.laB]
 have cC:m+d≠0->m≠0->∃y,∀X:ByteArray,X.data.toList=(((Cs.tf m (m+d)++Cs.sl (m+d-m+1))++[111,117,116,32,97,59,32])++Cs.sl (m-1))++[125]->∀w1,Below w.heap.size w w1->Calls prog 7 #[.string X] w1 λe w'=>∃r,e=.returned (.tuple #[r,.agg #[.int .i64 63,.int .i64 y]])/\Below w1.heap.size w1 w':=by
  intro _ h0
  obtain⟨k,rfl⟩:∃k,m=k+1:=⟨m-1,by omega⟩
  obtain⟨y,hy⟩:=Tr.ld_c k d hn
  refine⟨y,λX hX=>bad X (Tr.cS k d) 63 y (hX.trans ?_) hy⟩
  rw[show k+1+d-(k+1)+1=d+1 by omega,show k+1-1=k by omega,Tr.tf_tS,Tr.sl_rp,Tr.sl_rp]
  unfold Tr.cS
  simp[Tr.ouB]
 cases d with
 | zero=>
  obtain⟨y,hy⟩:=Tr.ld_b0 m hn
  exact Cs.sc_in (m+0) m hn (by omega) w 80 y (λ_=>rfl) (λh=>absurd h (by omega)) (λX hX=>good X _ (hX.trans eA) (Tr.ld_a m 0 hn)) (λX hX=>bad X _ 80 y (hX.trans eB) hy) cC cW
 | succ d=>
  exact Cs.sc_in (m+(d+1)) m hn (by omega) w 0 0 (λh=>absurd h (by omega)) (λ_=>rfl) (λX hX=>good X _ (hX.trans eA) (Tr.ld_a m (d+1) hn)) (λX hX=>good X _ (hX.trans eB) (Tr.ld_b m d hn)) cC cW
end Go.Proofs.YtjplieobnknnpaaGreatDoor.W
