import Derived.Test.YtgchnkgolclmgaaGreatDoorRA
import Derived.Test.YtgchnkgolclmgaaGreatDoorRS4J
import Derived.Test.YtgchnkgolclmgaaGreatDoorRI4J
open List renaming length_drop → aY, length_take → eU, drop_eq_nil_of_le → gI
open Nat renaming le_refl → ay
open Go.World renaming alloc → aH, alloc_heap_new → dQ
open Go.RowKit.Below renaming heap_setCell → aL
open Go.IntKind renaming i64 → bY, wrap_i64 → dI
open And renaming intro → bO
open Go.Proofs.Tryz
set_option maxRecDepth 1000000
set_option maxHeartbeats 8000000
namespace Go.Proofs.YtgchnkgolclmgaaGreatDoor.W
open Go.ChangeShapes Go.WideShapes Go.RowKit Go.Shelf
set_option linter.unusedVariables false
set_option linter.unusedSimpArgs false
def yg(p:Pc)(a:Nat):Value:=if p.size=0 then .tuple #[tv gX 0,.int .i64 (a:Nat),.agg #[.int .i64 60,.int .i64 (a:Nat)]] else if p.code≠0 then .tuple #[tv gX 0,.int .i64 (a:Nat),.agg #[.int .i64 p.code,.int .i64 (a:Nat)]] else .tuple #[tv p.t (a:Nat),.int .i64 ((a+p.size:Nat):Int),.agg #[.int .i64 0,.int .i64 0]]
theorem qm(n:Nat)(c:Int)(a:Nat)(hn:n≠0)(hc:c≠0):yg (gG n c) a=.tuple #[tv gX 0,.int .i64 (a:Nat),.agg #[.int .i64 c,.int .i64 (a:Nat)]]:=by
 unfold yg
 rw[if_neg (show ¬ (gG n c).size=0 from hn),if_pos (show (gG n c).code≠0 from hc)]
 rfl
theorem yZ(t:Tk)(n a:Nat)(hn:n≠0):yg (kN t n) a=.tuple #[tv t (a:Nat),.int .i64 ((a+n:Nat):Int),.agg #[.int .i64 0,.int .i64 0]]:=by
 unfold yg
 rw[if_neg (show ¬ (kN t n).size=0 from hn),if_neg (λh=>h rfl)]
 rfl
theorem dG{fn:Func}{p q r:Tmp}(h:fn.results = #[.cell p 36,.tmp q,.cell r 25])(tmps:Array Value)(w:World)(b4 b6:Nat)(v0 v1 v2 v3 v4 c a u:Value)(fr fr':Nat × Nat)(hp:tmps.getD p undef=.pointer (some ⟨b4,0,none⟩))(hq:tmps.getD q undef=u)(hr:tmps.getD r undef=.pointer (some ⟨b6,0,none⟩))(hg:w.heap[b4]? = some (.cells #[v0,v1,v2,v3,v4] 36 fr))(hg3:w.heap[b6]? = some (.cells #[c,a] 25 fr')):(results fn tmps).run prog w=.ok (.tuple #[.agg #[v0,v1,v2,v3,v4],u,.agg #[c,a]]) w:=by
 obtain⟨d,hu,hd⟩:=X6
 have hl:=run_loadVar_row (P:=prog) w b6 25 25 #[c,a] fr' d hg3 hu (by cases d <;> first|rfl|exact hd) (by rw[PL];rfl)
 have ht:=tkT
 cases hu2:prog.underlying 36 with
 | none=>rw[hu2] at ht;cases ht
 | some d2=>
  rw[hu2] at ht
  simp only[Option.map_some,Option.some.injEq] at ht
  have hl2:=run_loadVar_row (P:=prog) w b4 36 36 #[v0,v1,v2,v3,v4] fr d2 hg hu2 (by cases d2 <;> first|rfl|exact ht) (by rw[Ud];rfl)
  have hp':tmps[p]?.getD undef=.pointer (some ⟨b4,0,none⟩):=by simpa using hp
  have hq':tmps[q]?.getD undef=u:=by simpa using hq
  have hr':tmps[r]?.getD undef=.pointer (some ⟨b6,0,none⟩):=by simpa using hr
  simp[results,h,hp',hq',hr',asAddr,hl,hl2]
theorem oU(c:Int)(a:Nat)(w:World):Calls prog 42 #[.int .i64 c,.int .i64 a] w λe w'=>e=.returned (.tuple #[tv gX 0,.int .i64 (a:Nat),.agg #[.int .i64 c,.int .i64 (a:Nat)]])/\Below w.heap.size w w':=by
 go_enter func42,ntmps42
 go_wp2
 have g4:((w.alloc (.cells #[.int .i64 0,.int .i64 0,.string ⟨#[]⟩,.int .i64 0,.int .u64 0] 36)).alloc (.cells #[.int .i64 c,.int .i64 (a:Nat)] 25)).heap[w.heap.size]? = some (.cells #[.int .i64 0,.int .i64 0,.string ⟨#[]⟩,.int .i64 0,.int .u64 0] 36 (0,0)):=(Below.heap_alloc _ _ _ (by simp)).trans (dQ w _)
 have g6:((w.alloc (.cells #[.int .i64 0,.int .i64 0,.string ⟨#[]⟩,.int .i64 0,.int .u64 0] 36)).alloc (.cells #[.int .i64 c,.int .i64 (a:Nat)] 25)).heap[w.heap.size+1]? = some (.cells #[.int .i64 c,.int .i64 (a:Nat)] 25 (0,0)):=by
  have:=dQ (w.alloc (.cells #[.int .i64 0,.int .i64 0,.string ⟨#[]⟩,.int .i64 0,.int .u64 0] 36)) (.cells #[.int .i64 c,.int .i64 (a:Nat)] 25)
  rwa [World.size_alloc] at this
 refine bodyPost_ret (dG rfl _ _ _ _ _ _ _ _ _ _ _ _ (0,0) (0,0) rfl rfl rfl g4 g6) rfl ?_
 exact⟨rfl,((Below.refl _ w).alloc (ay _) _).alloc (by simp) _⟩
structure BK (w W:World):Prop where
 bf:Below w.heap.size w W
 h4:W.heap[w.heap.size]? = some (.cells #[.int .i64 0,.int .i64 0,.string ⟨#[]⟩,.int .i64 0,.int .u64 0] 36 (0,0))
 h6:W.heap[w.heap.size+1]? = some (.cells #[.int .i64 0,.int .i64 0] 25 (0,0))
theorem BK.start(w:World):BK w ((w.alloc (.cells #[.int .i64 0,.int .i64 0,.string ⟨#[]⟩,.int .i64 0,.int .u64 0] 36)).alloc (.cells #[.int .i64 0,.int .i64 0] 25)):=by
 refine⟨((Below.refl _ w).alloc (ay _) _).alloc (by simp) _,(Below.heap_alloc _ _ _ (by simp)).trans (dQ w _),?_⟩
 have:=dQ (w.alloc (.cells #[.int .i64 0,.int .i64 0,.string ⟨#[]⟩,.int .i64 0,.int .u64 0] 36)) (.cells #[.int .i64 0,.int .i64 0] 25)
 rwa [World.size_alloc] at this
theorem BK.go{w W W':World}(h:BK w W)(hb:Below W.heap.size W W'):BK w W':=⟨h.bf.trans (hb.mono h.bf.size),aF h.h4 hb,aF h.h6 hb⟩
theorem BK.fin{w W:World}(h:BK w W)(v0 v1 v2 v3 v4 c f:Value) :
  (((((((W.setCell ⟨w.heap.size,0,none⟩ v0).setCell ⟨w.heap.size,1,none⟩ v1).setCell ⟨w.heap.size,2,none⟩ v2).setCell ⟨w.heap.size,3,none⟩ v3).setCell ⟨w.heap.size,4,none⟩ v4).setCell ⟨w.heap.size+1,0,none⟩ c).setCell ⟨w.heap.size+1,1,none⟩ f).heap[w.heap.size]? = some (.cells #[v0,v1,v2,v3,v4] 36 (0,0)) /\
  (((((((W.setCell ⟨w.heap.size,0,none⟩ v0).setCell ⟨w.heap.size,1,none⟩ v1).setCell ⟨w.heap.size,2,none⟩ v2).setCell ⟨w.heap.size,3,none⟩ v3).setCell ⟨w.heap.size,4,none⟩ v4).setCell ⟨w.heap.size+1,0,none⟩ c).setCell ⟨w.heap.size+1,1,none⟩ f).heap[w.heap.size+1]? = some (.cells #[c,f] 25 (0,0)) /\
  Below w.heap.size w (((((((W.setCell ⟨w.heap.size,0,none⟩ v0).setCell ⟨w.heap.size,1,none⟩ v1).setCell ⟨w.heap.size,2,none⟩ v2).setCell ⟨w.heap.size,3,none⟩ v3).setCell ⟨w.heap.size,4,none⟩ v4).setCell ⟨w.heap.size+1,0,none⟩ c).setCell ⟨w.heap.size+1,1,none⟩ f):=by
 have h5:=gK h.h4 v0 v1 v2 v3 v4
 have b5:=jT h.bf (gb:=w.heap.size) (ay _) v0 v1 v2 v3 v4
 have o5:(((((W.setCell ⟨w.heap.size,0,none⟩ v0).setCell ⟨w.heap.size,1,none⟩ v1).setCell ⟨w.heap.size,2,none⟩ v2).setCell ⟨w.heap.size,3,none⟩ v3).setCell ⟨w.heap.size,4,none⟩ v4).heap[w.heap.size+1]? = some (.cells #[.int .i64 0,.int .i64 0] 25 (0,0)):=((((aL _ _ _ _ (by show w.heap.size+1≠w.heap.size;omega)).trans (aL _ _ _ _ (by show w.heap.size+1≠w.heap.size;omega))).trans (aL _ _ _ _ (by show w.heap.size+1≠w.heap.size;omega))).trans (aL _ _ _ _ (by show w.heap.size+1≠w.heap.size;omega))).trans ((aL _ _ _ _ (by show w.heap.size+1≠w.heap.size;omega)).trans h.h6)
 generalize ((((W.setCell ⟨w.heap.size,0,none⟩ v0).setCell ⟨w.heap.size,1,none⟩ v1).setCell ⟨w.heap.size,2,none⟩ v2).setCell ⟨w.heap.size,3,none⟩ v3).setCell ⟨w.heap.size,4,none⟩ v4=W5 at *
 refine⟨((aL _ _ _ _ (by show w.heap.size≠w.heap.size+1;omega)).trans (aL _ _ _ _ (by show w.heap.size≠w.heap.size+1;omega))).trans h5,aM (c:=[c,.int .i64 0]) (aM (c:=[.int .i64 0,.int .i64 0]) o5 0 c) 1 f,(b5.setCell (p:=⟨w.heap.size+1,0,none⟩) (by show w.heap.size<=w.heap.size+1;omega) c).setCell (p:=⟨w.heap.size+1,1,none⟩) (by show w.heap.size<=w.heap.size+1;omega) f⟩
theorem pK(s:ByteArray)(a n:Nat):(s.extract a (a+n)).data.toList=(s.data.toList.drop a).take n:=by
 simp[List.drop_take]
theorem EN(s S:ByteArray)(hs:s.size<=1000000)(a n tE:Nat)(hto:tE=a+n)(hn0:n≠0)(han:a+n<=s.size)(hn:runN dO (s.data.toList.drop a)=n)(hS:s.extract a tE=S)(hSz:S.size=n)(R:Value)
  (ways:(31<n/\R=.tuple #[tv gX 0,.int .i64 (a:Nat),.agg #[.int .i64 63,.int .i64 (a:Nat)]])\/(¬31<n/\((∃x:Int,((S.toList==[105,110,102])=true\/((S.toList==[105,110,102])=false/\(S.toList==[110,97,110])=true))/\(∀w,Calls prog 67 #[.string S] w λe w'=>e=.returned (.tuple #[.int .u64 x,.int .i64 0])/\Below w.heap.size w w')/\R=.tuple #[tv ⟨5,⟨#[]⟩,0,x⟩ (a:Nat),.int .i64 (tE:Int),.agg #[.int .i64 0,.int .i64 0]]) \/
   (∃b:Bool,(S.toList==[105,110,102])=false/\(S.toList==[110,97,110])=false/\(∀w,Calls prog 68 #[.string S] w λe w'=>e=.returned (.bool b)/\w'=w)/\R=.tuple #[tv ⟨if b=true then 2 else 1,S,0,0⟩ (a:Nat),.int .i64 (tE:Int),.agg #[.int .i64 0,.int .i64 0]])))) (w:World) :
  Calls prog 37 #[.string s,.int .i64 a] w λe w'=>e=.returned R/\Below w.heap.size w w':=by
 have cg:=IQ
 have cf:=oU 63 a
 simp only[tv,gX] at cf
 have HS:=hid hs
 have HA:=hid (bO han hn)
 have HE:=hid (bO hS hSz)
 have HTO:=hid hto
 have HW:=hid ways
 have HN0:=hid hn0
 have hN:=BK.start w
 clear hs han hn hS hSz ways hn0 hto
 go_enter func37,ntmps37
 go_upto_region 1 with fail
 generalize aH (aH w _) _=W at *
 have HN:=hid hN
 clear hN
 go_wp2_with fail
 go_loop [7] (λi=>∃k:Nat,i=.int .i64 k/\a<=k/\k<=s.size/\runN dO (s.data.toList.drop k)+k=tE) (λi=>s.size-(intOf i).toNat)
 case atStart=>exact⟨a,rfl,ay _,by have:=HA.out.1;omega,by have:=HA.out.2;have:=HTO.out;omega⟩
 case round=>
  obtain⟨k,rfl,h1,h2,h3⟩:=hrel
  have e1:bY.wrap ((k:Int)+1)=((k+1:Nat):Int):=by have:=HS.out;rw[dI];omega
  have e2:wrap64 ((k:Int)+1)=((k+1:Nat):Int):=by have:=HS.out;unfold wrap64;omega
  have on:(k<s.size/\∃h:k<s.size,dO s[k]=true)\/(k=tE/\(¬k<s.size\/∃h:k<s.size,dO s[k]=false)):=by
   by_cases c:k<s.size
   ·have hd:=drop_cons s k c
    cases b:dO s[k]
    ·right
     rw[hd,gM b] at h3
     exact⟨by omega,.inr ⟨c,b⟩⟩
    ·exact .inl ⟨c,c,b⟩
   ·right
    rw[gI (by rw[size_list];omega)] at h3
    exact⟨by have:runN dO []=0:=rfl;omega,.inl c⟩
  rcases on with⟨_,c,b⟩|⟨ek,hx⟩
  ·have hd:=drop_cons s k c
   have FQ:=cg s[k]
   rw[b] at FQ
   have c1:(k:Int)<(s.size:Int):=by omega
   have c0:(0:Int)<=(k:Int):=by omega
   have fin:=hid (show runN dO (s.data.toList.drop (k+1))+(k+1)=tE by rw[hd,dP b] at h3;omega)
   have HH:=hid (bO h1 c)
   clear h1 h2 h3 hd b
   go_wp2_with (go_at_call 66;(with_reducible refine(FQ _).mono ?_);rintro e w' ⟨rfl,rfl⟩)
   go_round
   case rel=>exact⟨k+1,by go_num,by have:=HH.out.1;omega,HH.out.2,fin.out⟩
   case measure=>have:=HH.out.2;simp[intOf];omega
  ·subst ek
   obtain⟨hS,hSz⟩:=HE.out
   have l0:(0:Int)<=(a:Int):=by omega
   have l1:(a:Int)<=(k:Int):=by omega
   have l2:(k:Int)<=(s.size:Int):=by omega
   have ex:(¬ (k:Int)<(s.size:Int))\/∃h:k<s.size,∀w,Calls prog 66 #[.int .u8 s[k].toNat] w λe w'=>e=.returned (.bool false)/\w'=w:=by
    rcases hx with hx|⟨h,hb⟩
    ·left;omega
    ·right;exact⟨h,λw=>by have:=cg s[k] w;rw[hb] at this;exact this⟩
   have HSZ:=hid hSz
   clear hx h1 h2 h3 hSz e1 e2 cg
   have hN:=HN.out
   rcases HW.out with⟨b1,hR⟩|⟨b1,⟨x,hb,cp,hR⟩|⟨b,hb1,hb2,cr,hR⟩⟩
   ·have z1:(S.size:Int)>31:=by have:=HSZ.out;omega
    have HR:=hid hR
    clear hR b1 HW
    rcases ex with ex|⟨hk,FQ⟩
    all_goals (
     go_wp2_with (first|(go_at_call 66;(with_reducible refine(FQ _).mono ?_);rintro e w' ⟨rfl,rfl⟩)|(go_at_call 42;(with_reducible refine(cf _).mono ?_);rintro e W2 ⟨rfl,hb⟩;(replace hN:=hN.go hb);clear hb;(have k0:W2.cell? ⟨w.heap.size,0,none⟩=some (.int .i64 0):=aA hN.h4 0);(have k1:W2.cell? ⟨w.heap.size,1,none⟩=some (.int .i64 0):=aA hN.h4 1);(have k2:W2.cell? ⟨w.heap.size,2,none⟩=some (.string ⟨#[]⟩):=aA hN.h4 2);(have k3:W2.cell? ⟨w.heap.size,3,none⟩=some (.int .i64 0):=aA hN.h4 3);(have k4:W2.cell? ⟨w.heap.size,4,none⟩=some (.int .u64 0):=aA hN.h4 4);(have k5:W2.cell? ⟨w.heap.size+1,0,none⟩=some (.int .i64 0):=aA hN.h6 0);(have k6:W2.cell? ⟨w.heap.size+1,1,none⟩=some (.int .i64 0):=aA hN.h6 1);(have z4:=aC hN.h4);(have z6:=aC hN.h6);(have dL:=hid hN);clear hN))
     refine bodyPost_ret (dG rfl _ _ w.heap.size (w.heap.size+1) _ _ _ _ _ _ _ _ (0,0) (0,0) rfl rfl rfl (dL.out.fin _ _ _ _ _ _ _).1 (dL.out.fin _ _ _ _ _ _ _).2.1) rfl ?_
     exact⟨by rw[HR.out];rfl,(dL.out.fin _ _ _ _ _ _ _).2.2⟩)
   ·have z1:¬ (S.size:Int)>31:=by have:=HSZ.out;omega
    have HR:=hid hR
    clear hR b1 HW
    rcases hb with hb|⟨hb,hb2⟩
    all_goals rcases ex with ex|⟨hk,FQ⟩
    all_goals (
     go_wp2_with (first|(go_at_call 66;(with_reducible refine(FQ _).mono ?_);rintro e w' ⟨rfl,rfl⟩)|(go_at_call 67;(with_reducible refine(cp _).mono ?_);rintro e W2 ⟨rfl,hb⟩;(replace hN:=hN.go hb);clear hb;(have k0:W2.cell? ⟨w.heap.size,0,none⟩=some (.int .i64 0):=aA hN.h4 0);(have k1:W2.cell? ⟨w.heap.size,1,none⟩=some (.int .i64 0):=aA hN.h4 1);(have k2:W2.cell? ⟨w.heap.size,2,none⟩=some (.string ⟨#[]⟩):=aA hN.h4 2);(have k3:W2.cell? ⟨w.heap.size,3,none⟩=some (.int .i64 0):=aA hN.h4 3);(have k4:W2.cell? ⟨w.heap.size,4,none⟩=some (.int .u64 0):=aA hN.h4 4);(have k5:W2.cell? ⟨w.heap.size+1,0,none⟩=some (.int .i64 0):=aA hN.h6 0);(have k6:W2.cell? ⟨w.heap.size+1,1,none⟩=some (.int .i64 0):=aA hN.h6 1);(have z4:=aC hN.h4);(have z6:=aC hN.h6);(have dL:=hid hN);clear hN))
     refine bodyPost_ret (dG rfl _ _ w.heap.size (w.heap.size+1) _ _ _ _ _ _ _ _ (0,0) (0,0) rfl rfl rfl (dL.out.fin _ _ _ _ _ _ _).1 (dL.out.fin _ _ _ _ _ _ _).2.1) rfl ?_
     exact⟨by rw[HR.out];rfl,(dL.out.fin _ _ _ _ _ _ _).2.2⟩)
   ·have z1:¬ (S.size:Int)>31:=by have:=HSZ.out;omega
    have HR:=hid hR
    have dL:=hid hN
    have k0:W.cell? ⟨w.heap.size,0,none⟩=some (.int .i64 0):=aA hN.h4 0;have k1:W.cell? ⟨w.heap.size,1,none⟩=some (.int .i64 0):=aA hN.h4 1;have k2:W.cell? ⟨w.heap.size,2,none⟩=some (.string ⟨#[]⟩):=aA hN.h4 2;have k3:W.cell? ⟨w.heap.size,3,none⟩=some (.int .i64 0):=aA hN.h4 3;have k4:W.cell? ⟨w.heap.size,4,none⟩=some (.int .u64 0):=aA hN.h4 4;have k5:W.cell? ⟨w.heap.size+1,0,none⟩=some (.int .i64 0):=aA hN.h6 0;have k6:W.cell? ⟨w.heap.size+1,1,none⟩=some (.int .i64 0):=aA hN.h6 1;have z4:=aC hN.h4;have z6:=aC hN.h6
    clear hR b1 HW hN
    cases b
    all_goals rcases ex with ex|⟨hk,FQ⟩
    all_goals (
     go_wp2_with ((with_reducible (apply Calls.mono;first|exact FQ _|exact cr _));rintro e w' ⟨rfl,rfl⟩)
     refine bodyPost_ret (dG rfl _ _ w.heap.size (w.heap.size+1) _ _ _ _ _ _ _ _ (0,0) (0,0) rfl rfl rfl (dL.out.fin _ _ _ _ _ _ _).1 (dL.out.fin _ _ _ _ _ _ _).2.1) rfl ?_
     exact⟨by rw[HR.out];rfl,(dL.out.fin _ _ _ _ _ _ _).2.2⟩)
theorem tN(c:UInt8)(h:jJ c=true):bI c=false/\dO c=true:=by
 rw[qp,h]
 refine⟨?_,rfl⟩
 unfold jJ at h
 unfold bI
 simp at h ⊢
 omega
theorem IK:iQ nI=(9218868437227405312,0):=by kernel_rfl
theorem IJ:iQ uy=(9221120237041090560,0):=by kernel_rfl
theorem O1(s:ByteArray)(hs:s.size<=1000000)(a:Nat)(ha:a<s.size)(hst:jJ s[a]=true)(w:World):Calls prog 37 #[.string s,.int .i64 a] w λe w'=>e=.returned (yg (nameP (s.data.toList.drop a)) a)/\Below w.heap.size w w':=by
 have hd:=drop_cons s a ha
 obtain⟨d1,d2⟩:=tN _ hst
 obtain⟨n,hn⟩:∃n,runN dO (s.data.toList.drop a)=n:=⟨_,rfl⟩
 have hle:=gZ dO (s.data.toList.drop a)
 rw[aY,size_list,hn] at hle
 have hn0:n≠0:=by rw[<- hn,hd,dP d2];omega
 obtain⟨S,hS⟩:∃S,s.extract a (a+n)=S:=⟨_,rfl⟩
 have Q0:S.data.toList=(s.data.toList.drop a).take n:=by rw[<- hS];exact pK s a n
 have hSz:S.size=n:=by rw[<- size_list,Q0,eU,aY,size_list];omega
 have hnp:nameP (s.data.toList.drop a)=if 31<n then gG n 63 else kN (kD ((s.data.toList.drop a).take n)) n:=by
  unfold nameP
  rw[hn,if_neg]
  rintro(h|h)
  ·exact hn0 h
  ·rw[hd] at h
   have:bI s[a]=true:=h
   rw[d1] at this
   cases this
 rw[hnp]
 refine EN s S hs a n (a+n) rfl hn0 (by omega) hn hS hSz _ ?_ w
 by_cases c:31<n
 ·left
  rw[if_pos c]
  exact⟨c,qm n 63 a hn0 (by decide)⟩
 ·right
  rw[if_neg c,yZ _ n a hn0,<- Q0]
  refine⟨c,?_⟩
  have hSL:S.toList=S.data.toList:=toList_eq S
  rw[hSL]
  have cp:=λw=>ny S (by rw[hSz];unfold maxLen;omega) w
  unfold kD
  by_cases i1:S.data.toList=nI
  ·left
   rw[i1,IK] at cp
   refine⟨9218868437227405312,.inl (by rw[i1];rfl),cp,by rw[if_pos i1]⟩
  ·have n1:(S.data.toList==[105,110,102])=false:=by rw[beq_eq_false_iff_ne];exact i1
   by_cases i2:S.data.toList=uy
   ·left
    rw[i2,IJ] at cp
    refine⟨9221120237041090560,.inr ⟨n1,by rw[i2];rfl⟩,cp,by rw[if_neg i1,if_pos i2]⟩
   ·right
    have n2:(S.data.toList==[110,97,110])=false:=by rw[beq_eq_false_iff_ne];exact i2
    refine⟨decide (S.data.toList ∈ words),n1,n2,λw=>CW S w,?_⟩
    rw[if_neg i1,if_neg i2]
    by_cases i3:S.data.toList ∈ words
    ·rw[if_pos i3,decide_eq_true i3,lQ];rfl
    ·rw[if_neg i3,decide_eq_false i3,lQ];rfl
theorem CU(s S:ByteArray)(hs:s.size<=1000000)(a n tE:Nat)(ha:a<s.size)(hto:tE=a+n)(hn0:n≠0)(han:a+n<=s.size)(hn:runN bI (s.data.toList.drop a)=n)(hS:s.extract a tE=S)(x c:Int)(cp:∀w,Calls prog 70 #[.string S] w λe w'=>e=.returned (.tuple #[.int .i64 x,.int .i64 c])/\w'=w)(hx:(((s[a].toNat:Int)==48)=false)\/(((s[a].toNat:Int)==48)=true/\(¬ ((a+1:Nat):Int)<(s.size:Int)\/∃h:a+1<s.size,((s[a+1].toNat:Int)==120)=false)))(R:Value)
  (ways:(c≠0/\R=.tuple #[tv gX 0,.int .i64 (a:Nat),.agg #[.int .i64 62,.int .i64 (a:Nat)]])\/(c=0/\R=.tuple #[tv ⟨4,⟨#[]⟩,x,0⟩ (a:Nat),.int .i64 (tE:Int),.agg #[.int .i64 0,.int .i64 0]])) (w:World) :
  Calls prog 39 #[.string s,.int .i64 a] w λe w'=>e=.returned R/\Below w.heap.size w w':=by
 have cg:=oV
 have cf:=oU 62 a
 simp only[tv,gX] at cf
 have HS:=hid hs
 have HA:=hid (bO han hn)
 have HTO:=hid hto
 have HE:=hid hS
 have HW:=hid ways
 have hN:=BK.start w
 have a0:(0:Int)<=(a:Int):=by omega
 have a1:(a:Int)<(s.size:Int):=by omega
 have a2:bY.wrap ((a:Int)+1)=((a+1:Nat):Int):=by rw[dI];omega
 have a3:wrap64 ((a:Int)+1)=((a+1:Nat):Int):=by unfold wrap64;omega
 have a4:(0:Int)<=((a+1:Nat):Int):=by omega
 clear hs han hn hS ways hn0 hto
 rcases hx with hx|⟨hx,hy|⟨hy1,hy2⟩⟩
 all_goals (
  (try have a5:((a+1:Nat):Int)<(s.size:Int):=by omega)
  go_enter func39,ntmps39
  go_upto_region 1 with fail
  generalize aH (aH w _) _=W at *
  have HN:=hid hN
  clear hN
  go_wp2_with fail
  go_loop [7] (λi=>∃k:Nat,i=.int .i64 k/\a<=k/\k<=s.size/\runN bI (s.data.toList.drop k)+k=tE) (λi=>s.size-(intOf i).toNat)
  case atStart=>exact⟨a,rfl,ay _,by have:=HA.out.1;omega,by have:=HA.out.2;have:=HTO.out;omega⟩
  case round=>
   obtain⟨k,rfl,h1,h2,h3⟩:=hrel
   have e1:bY.wrap ((k:Int)+1)=((k+1:Nat):Int):=by have:=HS.out;rw[dI];omega
   have e2:wrap64 ((k:Int)+1)=((k+1:Nat):Int):=by have:=HS.out;unfold wrap64;omega
   have on:(k<s.size/\∃h:k<s.size,bI s[k]=true)\/(k=tE/\(¬k<s.size\/∃h:k<s.size,bI s[k]=false)):=by
    by_cases c:k<s.size
    ·have hd:=drop_cons s k c
     cases b:bI s[k]
     ·right
      rw[hd,gM b] at h3
      exact⟨by omega,.inr ⟨c,b⟩⟩
     ·exact .inl ⟨c,c,b⟩
    ·right
     rw[gI (by rw[size_list];omega)] at h3
     exact⟨by have:runN bI []=0:=rfl;omega,.inl c⟩
   rcases on with⟨_,c,b⟩|⟨ek,hx2⟩
   ·have hd:=drop_cons s k c
    have FQ:=cg s[k]
    rw[b] at FQ
    have c1:(k:Int)<(s.size:Int):=by omega
    have c0:(0:Int)<=(k:Int):=by omega
    have fin:=hid (show runN bI (s.data.toList.drop (k+1))+(k+1)=tE by rw[hd,dP b] at h3;omega)
    have HH:=hid (bO h1 c)
    clear h1 h2 h3 hd b
    go_wp2_with (go_at_call 38;(with_reducible refine(FQ _).mono ?_);rintro e w' ⟨rfl,rfl⟩)
    go_round
    case rel=>exact⟨k+1,by go_num,by have:=HH.out.1;omega,HH.out.2,fin.out⟩
    case measure=>have:=HH.out.2;simp[intOf];omega
   ·subst ek
    have hS:=HE.out
    have l1:(a:Int)<=(k:Int):=by omega
    have l2:(k:Int)<=(s.size:Int):=by omega
    have ex:(¬ (k:Int)<(s.size:Int))\/∃h:k<s.size,∀w,Calls prog 38 #[.int .u8 s[k].toNat] w λe w'=>e=.returned (.bool false)/\w'=w:=by
     rcases hx2 with hx2|⟨h,hb⟩
     ·left;omega
     ·right;exact⟨h,λw=>by have:=cg s[k] w;rw[hb] at this;exact this⟩
    clear hx2 h1 h2 h3 e1 e2 cg
    have hN:=HN.out
    rcases HW.out with⟨b1,hR⟩|⟨b1,hR⟩
    ·have HR:=hid hR
     clear hR HW
     rcases ex with ex|⟨hk,FQ⟩
     all_goals (
      go_wp2_with (first|((with_reducible (apply Calls.mono;first|exact FQ _|exact cp _));rintro e w' ⟨rfl,rfl⟩)|(go_at_call 42;(with_reducible refine(cf _).mono ?_);rintro e W2 ⟨rfl,hb⟩;(replace hN:=hN.go hb);clear hb;(have k0:W2.cell? ⟨w.heap.size,0,none⟩=some (.int .i64 0):=aA hN.h4 0);(have k1:W2.cell? ⟨w.heap.size,1,none⟩=some (.int .i64 0):=aA hN.h4 1);(have k2:W2.cell? ⟨w.heap.size,2,none⟩=some (.string ⟨#[]⟩):=aA hN.h4 2);(have k3:W2.cell? ⟨w.heap.size,3,none⟩=some (.int .i64 0):=aA hN.h4 3);(have k4:W2.cell? ⟨w.heap.size,4,none⟩=some (.int .u64 0):=aA hN.h4 4);(have k5:W2.cell? ⟨w.heap.size+1,0,none⟩=some (.int .i64 0):=aA hN.h6 0);(have k6:W2.cell? ⟨w.heap.size+1,1,none⟩=some (.int .i64 0):=aA hN.h6 1);(have z4:=aC hN.h4);(have z6:=aC hN.h6);(have dL:=hid hN);clear hN))
      refine bodyPost_ret (dG rfl _ _ w.heap.size (w.heap.size+1) _ _ _ _ _ _ _ _ (0,0) (0,0) rfl rfl rfl (dL.out.fin _ _ _ _ _ _ _).1 (dL.out.fin _ _ _ _ _ _ _).2.1) rfl ?_
      exact⟨by rw[HR.out];rfl,(dL.out.fin _ _ _ _ _ _ _).2.2⟩)
    ·have HR:=hid hR
     have dL:=hid hN
     subst b1
     have k0:W.cell? ⟨w.heap.size,0,none⟩=some (.int .i64 0):=aA hN.h4 0;have k1:W.cell? ⟨w.heap.size,1,none⟩=some (.int .i64 0):=aA hN.h4 1;have k2:W.cell? ⟨w.heap.size,2,none⟩=some (.string ⟨#[]⟩):=aA hN.h4 2;have k3:W.cell? ⟨w.heap.size,3,none⟩=some (.int .i64 0):=aA hN.h4 3;have k4:W.cell? ⟨w.heap.size,4,none⟩=some (.int .u64 0):=aA hN.h4 4;have k5:W.cell? ⟨w.heap.size+1,0,none⟩=some (.int .i64 0):=aA hN.h6 0;have k6:W.cell? ⟨w.heap.size+1,1,none⟩=some (.int .i64 0):=aA hN.h6 1;have z4:=aC hN.h4;have z6:=aC hN.h6
     clear hR HW hN
     rcases ex with ex|⟨hk,FQ⟩
     all_goals (
      go_wp2_with ((with_reducible (apply Calls.mono;first|exact FQ _|exact cp _));rintro e w' ⟨rfl,rfl⟩)
      refine bodyPost_ret (dG rfl _ _ w.heap.size (w.heap.size+1) _ _ _ _ _ _ _ _ (0,0) (0,0) rfl rfl rfl (dL.out.fin _ _ _ _ _ _ _).1 (dL.out.fin _ _ _ _ _ _ _).2.1) rfl ?_
      exact⟨by rw[HR.out];rfl,(dL.out.fin _ _ _ _ _ _ _).2.2⟩))
def iK(r:List UInt8):Pc:=jK (nameP r) (jK (fC r) (jK (fJ r) (jK (dh r) (kP r))))
def nextR(r:List UInt8)(a:Nat):Value:=if r=[] then .tuple #[tv qO (a:Nat),.int .i64 (a:Nat),.agg #[.int .i64 0,.int .i64 0]] else yg (iK r) a
theorem wK(r:List UInt8)(h:pV r):bF r=iK r:=by
 unfold bF iK
 cases r with
 | nil=>rfl
 | cons c r=>
  obtain⟨h1,h2⟩:=h c rfl
  exact Ig (M8 c r h1 h2)
theorem AQ(p:Pc)(a:Nat):∃t x to' c f,yg p a=.tuple #[tv t x,.int .i64 to',.agg #[.int .i64 c,.int .i64 f]]:=by
 unfold yg
 split
 ·exact⟨_,_,_,_,_,rfl⟩
 ·split
  ·exact⟨_,_,_,_,_,rfl⟩
  ·exact⟨_,_,_,_,_,rfl⟩
theorem wP(c:UInt8)(r:List UInt8)(h:jJ c=false):nameP (c::r)=lJ:=by
 unfold nameP
 refine if_pos ?_
 cases hd:bI c
 ·left
  exact gM (by rw[qp,h,hd];rfl)
 ·right;exact hd
theorem vJ(c:UInt8)(r:List UInt8)(h:bI c=false):fC (c::r)=lJ/\fJ (c::r)=lJ:=by
 constructor
 ·unfold fC
  refine if_neg ?_
  intro e
  have:c=48:=by
   have:=congrArg List.head? e
   simpa [wu] using this
  subst this
  revert h;decide
 ·unfold fJ
  exact if_pos (gM h)
theorem Ij(c:UInt8)(r:List UInt8)(h:c≠34):dh (c::r)=lJ:=if_neg (λe=>h (by simpa using e))
theorem rV(b:Pc):jK lJ b=b:=rfl
theorem AP{a b:Pc}(h:¬a.size=0):jK a b=a:=if_neg h
def jd:List (List UInt8):=[[61,61],[33,61],[60,61],[62,61],[60,60],[62,62],[47,47],[46,46]]
def kS:List (List UInt8):=[[43],[45],[42],[47],[37],[38],[124],[94],[126],[60],[62],[61],[40],[41],[123],[125],[91],[93],[44],[59],[58]]
theorem DN(r:List UInt8)(n:Nat)(L:List (List UInt8))(hL:∀m ∈ L,m.length=n):L.find? (λm=>r.take m.length==m)=if r.take n ∈ L then some (r.take n) else none:=by
 induction L with
 | nil=>rfl
 | cons m L ih=>
  have hm:=hL m (by simp)
  have ih':=ih (λm h=>hL m (by simp[h]))
  rw[List.find?_cons,hm]
  by_cases c:r.take n=m
  ·rw[c]
   simp
  ·have e:(r.take n==m)=false:=by rw[beq_eq_false_iff_ne];exact c
   rw[e,ih']
   simp[c]
theorem Iq(r:List UInt8):kP r=if r.take 2 ∈ jd then kN ⟨3,bytesOf (r.take 2),0,0⟩ 2 else if r.take 1 ∈ kS then kN ⟨3,bytesOf (r.take 1),0,0⟩ 1 else lJ:=by
 have hm:marks=jd++kS:=rfl
 have l2:∀m ∈ jd,m.length=2:=by decide
 have l1:∀m ∈ kS,m.length=1:=by decide
 unfold kP
 rw[hm,List.find?_append,DN r 2 jd l2,DN r 1 kS l1]
 by_cases c:r.take 2 ∈ jd
 ·rw[if_pos c,if_pos c]
  show kN ⟨3,bytesOf (r.take 2),0,0⟩ (r.take 2).length=_
  rw[l2 _ c]
 ·rw[if_neg c,if_neg c]
  by_cases d:r.take 1 ∈ kS
  ·rw[if_pos d,if_pos d]
   show kN ⟨3,bytesOf (r.take 1),0,0⟩ (r.take 1).length=_
   rw[l1 _ d]
  ·rw[if_neg d,if_neg d]
   rfl
theorem Og(l:List UInt8)(h:l.length=2):l ∈ marks↔l ∈ jd:=by
 have hm:marks=jd++kS:=rfl
 have l1:∀m ∈ kS,m.length=1:=by decide
 rw[hm,List.mem_append]
 constructor
 ·rintro(h1|h1)
  ·exact h1
  ·have:=l1 _ h1;omega
 ·exact .inl
theorem Oh(l:List UInt8)(h:l.length=1):l ∈ marks↔l ∈ kS:=by
 have hm:marks=jd++kS:=rfl
 have l2:∀m ∈ jd,m.length=2:=by decide
 rw[hm,List.mem_append]
 constructor
 ·rintro(h1|h1)
  ·have:=l2 _ h1;omega
  ·exact h1
 ·exact .inr
theorem rest_start(c:UInt8)(r:List UInt8)(h:jJ c=true):iK (c::r)=nameP (c::r):=by
 unfold iK
 obtain⟨d1,d2⟩:=tN c h
 refine AP ?_
 unfold nameP
 rw[if_neg]
 ·have:runN dO (c::r)≠0:=by rw[dP d2];omega
  split
  ·exact this
  ·exact this
 ·rintro(g|g)
  ·rw[dP d2] at g;omega
  ·have:bI c=true:=g
   rw[d1] at this;cases this
theorem EI(c:UInt8)(r:List UInt8)(h:bI c=true):iK (c::r)=jK (fC (c::r)) (fJ (c::r)):=by
 have hs:jJ c=false:=by
  cases e:jJ c
  ·rfl
  ·rw[(tN c e).1] at h;cases h
 have hw:¬ (fJ (c::r)).size=0:=by
  have sz:(fJ (c::r)).size=runN bI (c::r):=by
   unfold fJ
   split
   ·rename_i g;rw[g];rfl
   ·split <;> rfl
  rw[sz,dP h];omega
 unfold iK
 rw[wP c r hs,rV,AP hw]
theorem EH(r:List UInt8):iK (34::r)=dh (34::r):=by
 unfold iK
 rw[wP 34 r (by decide),rV,(vJ 34 r (by decide)).1,rV,(vJ 34 r (by decide)).2,rV]
 refine AP ?_
 have e:dh (34::r)=qd (bq (34::r).length r 1 []):=by unfold dh;rw[if_pos (show (34::r).head? = some 34 from rfl)];rfl
 rw[e]
 have:=wH (34::r).length r 1 []
 rcases mo (bq (34::r).length r 1 []) with g|⟨_,g⟩
 ·rw[g];omega
 ·rw[g];exact Nat.one_ne_zero
theorem IB(c:UInt8)(r:List UInt8)(h1:jJ c=false)(h2:bI c=false)(h3:c≠34):iK (c::r)=kP (c::r):=by
 unfold iK
 rw[wP c r h1,rV,(vJ c r h2).1,rV,(vJ c r h2).2,rV,Ij c r h3,rV]
theorem OZ(s:ByteArray)(hs:s.size<=1000000)(a:Nat)(ha:a<=s.size)(cn:∀h:a<s.size,bI s[a]=true->∀w,Calls prog 39 #[.string s,.int .i64 a] w λe w'=>e=.returned (yg (jK (fC (s.data.toList.drop a)) (fJ (s.data.toList.drop a))) a)/\Below w.heap.size w w')
  (cq:∀h:a<s.size,s[a].toNat=34->∀w,Calls prog 40 #[.string s,.int .i64 a] w λe w'=>e=.returned (yg (dh (s.data.toList.drop a)) a)/\Below w.heap.size w w') (w:World) :
  Calls prog 23 #[.string s,.int .i64 a] w λe w'=>e=.returned (nextR (s.data.toList.drop a) a)/\Below w.heap.size w w':=by
 have hN:=BK.start w
 by_cases ea:a=s.size
 ·have e1:(a:Int)=(s.size:Int):=by omega
  have er:nextR (s.data.toList.drop a) a=.tuple #[tv qO (a:Nat),.int .i64 (a:Nat),.agg #[.int .i64 0,.int .i64 0]]:=if_pos (gI (by rw[size_list];omega))
  rw[er]
  simp only[tv,qO]
  clear cn cq er hs ha
  have e2:((a:Int)==(s.size:Int))=true:=by simp[e1]
  clear e1 ea
  go_enter func23,ntmps23
  go_upto_region 1 with fail
  generalize aH (aH w _) _=W at *
  have dL:=hid hN
  have k0:W.cell? ⟨w.heap.size,0,none⟩=some (.int .i64 0):=aA hN.h4 0;have k1:W.cell? ⟨w.heap.size,1,none⟩=some (.int .i64 0):=aA hN.h4 1;have k2:W.cell? ⟨w.heap.size,2,none⟩=some (.string ⟨#[]⟩):=aA hN.h4 2;have k3:W.cell? ⟨w.heap.size,3,none⟩=some (.int .i64 0):=aA hN.h4 3;have k4:W.cell? ⟨w.heap.size,4,none⟩=some (.int .u64 0):=aA hN.h4 4;have k5:W.cell? ⟨w.heap.size+1,0,none⟩=some (.int .i64 0):=aA hN.h6 0;have k6:W.cell? ⟨w.heap.size+1,1,none⟩=some (.int .i64 0):=aA hN.h6 1;have z4:=aC hN.h4;have z6:=aC hN.h6
  clear hN
  go_wp2
  refine bodyPost_ret (dG rfl _ _ w.heap.size (w.heap.size+1) _ _ _ _ _ _ _ _ (0,0) (0,0) rfl rfl rfl (dL.out.fin _ _ _ _ _ _ _).1 (dL.out.fin _ _ _ _ _ _ _).2.1) rfl ?_
  exact⟨rfl,(dL.out.fin _ _ _ _ _ _ _).2.2⟩
 ·have hlt:a<s.size:=by omega
  have hd:=drop_cons s a hlt
  have a0:(0:Int)<=(a:Int):=by omega
  have a1:(a:Int)<(s.size:Int):=by omega
  have a2:((a:Int)==(s.size:Int))=false:=by simp;omega
  have er:nextR (s.data.toList.drop a) a=yg (iK (s.data.toList.drop a)) a:=if_neg (by rw[hd];simp)
  rw[er]
  have cs:=yT s[a]
  have cd:=oV s[a]
  by_cases b1:jJ s[a]=true
  ·have hr:=rest_start s[a] (s.data.toList.drop (a+1)) b1
   rw[<- hd] at hr
   rw[hr]
   have cm:=λw=>O1 s hs a hlt b1 w
   obtain⟨t,x,y,c,f,hf⟩:=AQ (nameP (s.data.toList.drop a)) a
   rw[hf] at cm ⊢
   rw[b1] at cs
   simp only[tv] at cm ⊢
   clear cn cq er hs ha hd hr hf ea cd b1
   go_enter func23,ntmps23
   go_upto_region 1 with fail
   generalize aH (aH w _) _=W at *
   go_wp2_with (first|(go_at_call 36;(with_reducible refine(cs _).mono ?_);rintro e w' ⟨rfl,rfl⟩)|(go_at_call 37;(with_reducible refine(cm _).mono ?_);rintro e W2 ⟨rfl,hb⟩;(replace hN:=hN.go hb);clear hb;(have k0:W2.cell? ⟨w.heap.size,0,none⟩=some (.int .i64 0):=aA hN.h4 0);(have k1:W2.cell? ⟨w.heap.size,1,none⟩=some (.int .i64 0):=aA hN.h4 1);(have k2:W2.cell? ⟨w.heap.size,2,none⟩=some (.string ⟨#[]⟩):=aA hN.h4 2);(have k3:W2.cell? ⟨w.heap.size,3,none⟩=some (.int .i64 0):=aA hN.h4 3);(have k4:W2.cell? ⟨w.heap.size,4,none⟩=some (.int .u64 0):=aA hN.h4 4);(have k5:W2.cell? ⟨w.heap.size+1,0,none⟩=some (.int .i64 0):=aA hN.h6 0);(have k6:W2.cell? ⟨w.heap.size+1,1,none⟩=some (.int .i64 0):=aA hN.h6 1);(have z4:=aC hN.h4);(have z6:=aC hN.h6);(have dL:=hid hN);clear hN))
   refine bodyPost_ret (dG rfl _ _ w.heap.size (w.heap.size+1) _ _ _ _ _ _ _ _ (0,0) (0,0) rfl rfl rfl (dL.out.fin _ _ _ _ _ _ _).1 (dL.out.fin _ _ _ _ _ _ _).2.1) rfl ?_
   exact⟨rfl,(dL.out.fin _ _ _ _ _ _ _).2.2⟩
  ·have b1':jJ s[a]=false:=by simpa using b1
   rw[b1'] at cs
   by_cases b2:bI s[a]=true
   ·have hr:=EI s[a] (s.data.toList.drop (a+1)) b2
    rw[<- hd] at hr
    rw[hr]
    have cm:=cn hlt b2
    obtain⟨t,x,y,c,f,hf⟩:=AQ (jK (fC (s.data.toList.drop a)) (fJ (s.data.toList.drop a))) a
    rw[hf] at cm ⊢
    rw[b2] at cd
    simp only[tv] at cm ⊢
    clear cn cq er hs ha hd hr hf ea b1 b1' b2
    go_enter func23,ntmps23
    go_upto_region 1 with fail
    generalize aH (aH w _) _=W at *
    go_wp2_with (first|((with_reducible (apply Calls.mono;first|exact cs _|exact cd _));rintro e w' ⟨rfl,rfl⟩)|(go_at_call 39;(with_reducible refine(cm _).mono ?_);rintro e W2 ⟨rfl,hb⟩;(replace hN:=hN.go hb);clear hb;(have k0:W2.cell? ⟨w.heap.size,0,none⟩=some (.int .i64 0):=aA hN.h4 0);(have k1:W2.cell? ⟨w.heap.size,1,none⟩=some (.int .i64 0):=aA hN.h4 1);(have k2:W2.cell? ⟨w.heap.size,2,none⟩=some (.string ⟨#[]⟩):=aA hN.h4 2);(have k3:W2.cell? ⟨w.heap.size,3,none⟩=some (.int .i64 0):=aA hN.h4 3);(have k4:W2.cell? ⟨w.heap.size,4,none⟩=some (.int .u64 0):=aA hN.h4 4);(have k5:W2.cell? ⟨w.heap.size+1,0,none⟩=some (.int .i64 0):=aA hN.h6 0);(have k6:W2.cell? ⟨w.heap.size+1,1,none⟩=some (.int .i64 0):=aA hN.h6 1);(have z4:=aC hN.h4);(have z6:=aC hN.h6);(have dL:=hid hN);clear hN))
    refine bodyPost_ret (dG rfl _ _ w.heap.size (w.heap.size+1) _ _ _ _ _ _ _ _ (0,0) (0,0) rfl rfl rfl (dL.out.fin _ _ _ _ _ _ _).1 (dL.out.fin _ _ _ _ _ _ _).2.1) rfl ?_
    exact⟨rfl,(dL.out.fin _ _ _ _ _ _ _).2.2⟩
   ·have b2':bI s[a]=false:=by simpa using b2
    rw[b2'] at cd
    by_cases b3:s[a].toNat=34
    ·have hc:s[a]=34:=gQ b3
     have hr:=EH (s.data.toList.drop (a+1))
     rw[<- hc,<- hd] at hr
     rw[hr]
     have cm:=cq hlt b3
     obtain⟨t,x,y,c,f,hf⟩:=AQ (dh (s.data.toList.drop a)) a
     rw[hf] at cm ⊢
     simp only[tv] at cm ⊢
     have q3:((s[a].toNat:Int)==34)=true:=by simp;omega
     clear cn cq er hs ha hd hr hf ea b1 b1' b2 b2' hc b3
     go_enter func23,ntmps23
     go_upto_region 1 with fail
     generalize aH (aH w _) _=W at *
     go_wp2_with (first|((with_reducible (apply Calls.mono;first|exact cs _|exact cd _));rintro e w' ⟨rfl,rfl⟩)|(go_at_call 40;(with_reducible refine(cm _).mono ?_);rintro e W2 ⟨rfl,hb⟩;(replace hN:=hN.go hb);clear hb;(have k0:W2.cell? ⟨w.heap.size,0,none⟩=some (.int .i64 0):=aA hN.h4 0);(have k1:W2.cell? ⟨w.heap.size,1,none⟩=some (.int .i64 0):=aA hN.h4 1);(have k2:W2.cell? ⟨w.heap.size,2,none⟩=some (.string ⟨#[]⟩):=aA hN.h4 2);(have k3:W2.cell? ⟨w.heap.size,3,none⟩=some (.int .i64 0):=aA hN.h4 3);(have k4:W2.cell? ⟨w.heap.size,4,none⟩=some (.int .u64 0):=aA hN.h4 4);(have k5:W2.cell? ⟨w.heap.size+1,0,none⟩=some (.int .i64 0):=aA hN.h6 0);(have k6:W2.cell? ⟨w.heap.size+1,1,none⟩=some (.int .i64 0):=aA hN.h6 1);(have z4:=aC hN.h4);(have z6:=aC hN.h6);(have dL:=hid hN);clear hN))
     refine bodyPost_ret (dG rfl _ _ w.heap.size (w.heap.size+1) _ _ _ _ _ _ _ _ (0,0) (0,0) rfl rfl rfl (dL.out.fin _ _ _ _ _ _ _).1 (dL.out.fin _ _ _ _ _ _ _).2.1) rfl ?_
     exact⟨rfl,(dL.out.fin _ _ _ _ _ _ _).2.2⟩
    ·have hr:=IB s[a] (s.data.toList.drop (a+1)) b1' b2' (λe=>b3 (by rw[e];rfl))
     rw[<- hd,Iq] at hr
     rw[hr]
     have q3:((s[a].toNat:Int)==34)=false:=by simp;omega
     obtain⟨S1,hS1⟩:∃S1,s.extract a (a+1)=S1:=⟨_,rfl⟩
     obtain⟨S2,hS2⟩:∃S2,s.extract a (a+2)=S2:=⟨_,rfl⟩
     have t1:S1.data.toList=(s.data.toList.drop a).take 1:=by rw[<- hS1];exact pK s a 1
     have t2:S2.data.toList=(s.data.toList.drop a).take 2:=by rw[<- hS2];exact pK s a 2
     have z1:S1.data.toList.length=1:=by rw[t1,eU,aY,size_list];omega
     have z2:a+2<=s.size->S2.data.toList.length=2:=λh=>by rw[t2,eU,aY,size_list];omega
     have y2:¬a+2<=s.size->(s.data.toList.drop a).take 2 ∉ jd:=by
      intro h hm
      have:((s.data.toList.drop a).take 2).length=2:=(show ∀m ∈ jd,m.length=2 by decide) _ hm
      rw[eU,aY,size_list] at this
      omega
     have cm1:=λw=>Fy S1 w
     have cm2:=λw=>Fy S2 w
     have cf:=oU 60 a
     simp only[tv,gX] at cf
     have w1:bY.wrap ((a:Int)+1)=((a+1:Nat):Int):=by rw[dI];omega
     have w2:wrap64 ((a:Int)+1)=((a+1:Nat):Int):=by unfold wrap64;omega
     have w3:bY.wrap ((a:Int)+2)=((a+2:Nat):Int):=by rw[dI];omega
     have w4:wrap64 ((a:Int)+2)=((a+2:Nat):Int):=by unfold wrap64;omega
     have v1:(a:Int)<=((a+1:Nat):Int):=by omega
     have v2:(a:Int)<=((a+2:Nat):Int):=by omega
     have v3:((a+1:Nat):Int)<=(s.size:Int):=by omega
     have two:(((a+2:Nat):Int)<=(s.size:Int)/\(∀w,Calls prog 41 #[.string S2] w λe w'=>e=.returned (.bool true)/\w'=w)/\(s.data.toList.drop a).take 2 ∈ jd)\/((((a+2:Nat):Int)<=(s.size:Int)/\(∀w,Calls prog 41 #[.string S2] w λe w'=>e=.returned (.bool false)/\w'=w))\/¬ ((a+2:Nat):Int)<=(s.size:Int))/\(s.data.toList.drop a).take 2 ∉ jd:=by
      by_cases h:a+2<=s.size
      ·have e:=Og S2.data.toList (z2 h)
       by_cases g:S2.data.toList ∈ jd
       ·left
        refine⟨by omega,λw=>?_,by rw[<- t2];exact g⟩
        have:=cm2 w
        rw[decide_eq_true (e.2 g)] at this
        exact this
       ·right
        refine⟨.inl ⟨by omega,λw=>?_⟩,by rw[<- t2];exact g⟩
        have:=cm2 w
        rw[decide_eq_false (λk=>g (e.1 k))] at this
        exact this
      ·right
       exact⟨.inr (by omega),y2 h⟩
     have one:((∀w,Calls prog 41 #[.string S1] w λe w'=>e=.returned (.bool true)/\w'=w)/\(s.data.toList.drop a).take 1 ∈ kS)\/((∀w,Calls prog 41 #[.string S1] w λe w'=>e=.returned (.bool false)/\w'=w)/\(s.data.toList.drop a).take 1 ∉ kS):=by
      have e:=Oh S1.data.toList z1
      by_cases g:S1.data.toList ∈ kS
      ·left
       refine⟨λw=>?_,by rw[<- t1];exact g⟩
       have:=cm1 w
       rw[decide_eq_true (e.2 g)] at this
       exact this
      ·right
       refine⟨λw=>?_,by rw[<- t1];exact g⟩
       have:=cm1 w
       rw[decide_eq_false (λk=>g (e.1 k))] at this
       exact this
     have eb1:bytesOf ((s.data.toList.drop a).take 1)=S1:=by rw[<- t1,lQ]
     have X7:bytesOf ((s.data.toList.drop a).take 2)=S2:=by rw[<- t2,lQ]
     rw[eb1,X7]
     clear cn cq er hs ha hd hr ea b1 b1' b2 b2' b3 t1 t2 z1 z2 y2 cm1 cm2 eb1 X7
     have v4:a+1<=s.size:=by omega
     obtain⟨E1,hE1⟩:∃E1,a+1=E1:=⟨_,rfl⟩
     obtain⟨E2,hE2⟩:∃E2,a+2=E2:=⟨_,rfl⟩
     rw[hE1] at hS1 w1 w2 v1 v3 v4
     rw[hE2] at hS2 w3 w4 v2 two
     have HE1:=hid hE1
     have HE2:=hid hE2
     clear hE1 hE2
     rcases two with⟨u1,c2,u2⟩|⟨u1,u2⟩
     ·have u4:E2<=s.size:=by omega
      rw[if_pos u2,yZ _ 2 a (by decide),HE2.out]
      simp only[tv]
      clear u2 one
      go_enter func23,ntmps23
      go_upto_region 1 with fail
      generalize aH (aH w _) _=W at *
      have dL:=hid hN
      have k0:W.cell? ⟨w.heap.size,0,none⟩=some (.int .i64 0):=aA hN.h4 0;have k1:W.cell? ⟨w.heap.size,1,none⟩=some (.int .i64 0):=aA hN.h4 1;have k2:W.cell? ⟨w.heap.size,2,none⟩=some (.string ⟨#[]⟩):=aA hN.h4 2;have k3:W.cell? ⟨w.heap.size,3,none⟩=some (.int .i64 0):=aA hN.h4 3;have k4:W.cell? ⟨w.heap.size,4,none⟩=some (.int .u64 0):=aA hN.h4 4;have k5:W.cell? ⟨w.heap.size+1,0,none⟩=some (.int .i64 0):=aA hN.h6 0;have k6:W.cell? ⟨w.heap.size+1,1,none⟩=some (.int .i64 0):=aA hN.h6 1;have z4:=aC hN.h4;have z6:=aC hN.h6
      clear hN
      go_wp2_with ((with_reducible (apply Calls.mono;first|exact cs _|exact cd _));rintro e w' ⟨rfl,rfl⟩)
      refine wp_loop_rounds 3 ?_
      rw[rounds_succ]
      go_wp2_with (go_at_call 41;(with_reducible refine(c2 _).mono ?_);rintro e w' ⟨rfl,rfl⟩)
      refine bodyPost_ret (dG rfl _ _ w.heap.size (w.heap.size+1) _ _ _ _ _ _ _ _ (0,0) (0,0) rfl rfl rfl (dL.out.fin _ _ _ _ _ _ _).1 (dL.out.fin _ _ _ _ _ _ _).2.1) rfl ?_
      exact⟨rfl,(dL.out.fin _ _ _ _ _ _ _).2.2⟩
     ·rw[if_neg u2]
      clear u2
      rcases one with⟨c1,u3⟩|⟨c1,u3⟩
      ·rw[if_pos u3,yZ _ 1 a (by decide),HE1.out]
       simp only[tv]
       clear u3
       rcases u1 with⟨u1,c2⟩|u1
       ·have u4:E2<=s.size:=by omega
        go_enter func23,ntmps23
        go_upto_region 1 with fail
        generalize aH (aH w _) _=W at *
        have dL:=hid hN
        have k0:W.cell? ⟨w.heap.size,0,none⟩=some (.int .i64 0):=aA hN.h4 0;have k1:W.cell? ⟨w.heap.size,1,none⟩=some (.int .i64 0):=aA hN.h4 1;have k2:W.cell? ⟨w.heap.size,2,none⟩=some (.string ⟨#[]⟩):=aA hN.h4 2;have k3:W.cell? ⟨w.heap.size,3,none⟩=some (.int .i64 0):=aA hN.h4 3;have k4:W.cell? ⟨w.heap.size,4,none⟩=some (.int .u64 0):=aA hN.h4 4;have k5:W.cell? ⟨w.heap.size+1,0,none⟩=some (.int .i64 0):=aA hN.h6 0;have k6:W.cell? ⟨w.heap.size+1,1,none⟩=some (.int .i64 0):=aA hN.h6 1;have z4:=aC hN.h4;have z6:=aC hN.h6
        clear hN
        go_wp2_with ((with_reducible (apply Calls.mono;first|exact cs _|exact cd _));rintro e w' ⟨rfl,rfl⟩)
        refine wp_loop_rounds 3 ?_
        rw[rounds_succ]
        go_wp2_with (go_at_call 41;(with_reducible refine(c2 _).mono ?_);rintro e w' ⟨rfl,rfl⟩)
        rw[rounds_succ]
        go_wp2_with (go_at_call 41;(with_reducible refine(c1 _).mono ?_);rintro e w' ⟨rfl,rfl⟩)
        refine bodyPost_ret (dG rfl _ _ w.heap.size (w.heap.size+1) _ _ _ _ _ _ _ _ (0,0) (0,0) rfl rfl rfl (dL.out.fin _ _ _ _ _ _ _).1 (dL.out.fin _ _ _ _ _ _ _).2.1) rfl ?_
        exact⟨rfl,(dL.out.fin _ _ _ _ _ _ _).2.2⟩
       ·have u4:¬E2<=s.size:=by omega
        go_enter func23,ntmps23
        go_upto_region 1 with fail
        generalize aH (aH w _) _=W at *
        have dL:=hid hN
        have k0:W.cell? ⟨w.heap.size,0,none⟩=some (.int .i64 0):=aA hN.h4 0;have k1:W.cell? ⟨w.heap.size,1,none⟩=some (.int .i64 0):=aA hN.h4 1;have k2:W.cell? ⟨w.heap.size,2,none⟩=some (.string ⟨#[]⟩):=aA hN.h4 2;have k3:W.cell? ⟨w.heap.size,3,none⟩=some (.int .i64 0):=aA hN.h4 3;have k4:W.cell? ⟨w.heap.size,4,none⟩=some (.int .u64 0):=aA hN.h4 4;have k5:W.cell? ⟨w.heap.size+1,0,none⟩=some (.int .i64 0):=aA hN.h6 0;have k6:W.cell? ⟨w.heap.size+1,1,none⟩=some (.int .i64 0):=aA hN.h6 1;have z4:=aC hN.h4;have z6:=aC hN.h6
        clear hN
        go_wp2_with ((with_reducible (apply Calls.mono;first|exact cs _|exact cd _));rintro e w' ⟨rfl,rfl⟩)
        refine wp_loop_rounds 3 ?_
        rw[rounds_succ]
        go_wp2_with (go_at_call 41;(with_reducible refine(c2 _).mono ?_);rintro e w' ⟨rfl,rfl⟩)
        rw[rounds_succ]
        go_wp2_with (go_at_call 41;(with_reducible refine(c1 _).mono ?_);rintro e w' ⟨rfl,rfl⟩)
        refine bodyPost_ret (dG rfl _ _ w.heap.size (w.heap.size+1) _ _ _ _ _ _ _ _ (0,0) (0,0) rfl rfl rfl (dL.out.fin _ _ _ _ _ _ _).1 (dL.out.fin _ _ _ _ _ _ _).2.1) rfl ?_
        exact⟨rfl,(dL.out.fin _ _ _ _ _ _ _).2.2⟩
      ·rw[if_neg u3]
       have en:yg lJ a=.tuple #[tv gX 0,.int .i64 (a:Nat),.agg #[.int .i64 60,.int .i64 (a:Nat)]]:=if_pos rfl
       rw[en]
       simp only[tv,gX]
       clear u3 en
       rcases u1 with⟨u1,c2⟩|u1
       ·have u4:E2<=s.size:=by omega
        go_enter func23,ntmps23
        go_upto_region 1 with fail
        generalize aH (aH w _) _=W at *
        go_wp2_with ((with_reducible (apply Calls.mono;first|exact cs _|exact cd _));rintro e w' ⟨rfl,rfl⟩)
        refine wp_loop_rounds 3 ?_
        rw[rounds_succ]
        go_wp2_with (go_at_call 41;(with_reducible refine(c2 _).mono ?_);rintro e w' ⟨rfl,rfl⟩)
        rw[rounds_succ]
        go_wp2_with (go_at_call 41;(with_reducible refine(c1 _).mono ?_);rintro e w' ⟨rfl,rfl⟩)
        rw[rounds_succ]
        go_wp2_with (go_at_call 42;(with_reducible refine(cf _).mono ?_);rintro e W2 ⟨rfl,hb⟩;(replace hN:=hN.go hb);clear hb;(have k0:W2.cell? ⟨w.heap.size,0,none⟩=some (.int .i64 0):=aA hN.h4 0);(have k1:W2.cell? ⟨w.heap.size,1,none⟩=some (.int .i64 0):=aA hN.h4 1);(have k2:W2.cell? ⟨w.heap.size,2,none⟩=some (.string ⟨#[]⟩):=aA hN.h4 2);(have k3:W2.cell? ⟨w.heap.size,3,none⟩=some (.int .i64 0):=aA hN.h4 3);(have k4:W2.cell? ⟨w.heap.size,4,none⟩=some (.int .u64 0):=aA hN.h4 4);(have k5:W2.cell? ⟨w.heap.size+1,0,none⟩=some (.int .i64 0):=aA hN.h6 0);(have k6:W2.cell? ⟨w.heap.size+1,1,none⟩=some (.int .i64 0):=aA hN.h6 1);(have z4:=aC hN.h4);(have z6:=aC hN.h6);(have dL:=hid hN);clear hN)
        refine bodyPost_ret (dG rfl _ _ w.heap.size (w.heap.size+1) _ _ _ _ _ _ _ _ (0,0) (0,0) rfl rfl rfl (dL.out.fin _ _ _ _ _ _ _).1 (dL.out.fin _ _ _ _ _ _ _).2.1) rfl ?_
        exact⟨rfl,(dL.out.fin _ _ _ _ _ _ _).2.2⟩
       ·have u4:¬E2<=s.size:=by omega
        go_enter func23,ntmps23
        go_upto_region 1 with fail
        generalize aH (aH w _) _=W at *
        go_wp2_with ((with_reducible (apply Calls.mono;first|exact cs _|exact cd _));rintro e w' ⟨rfl,rfl⟩)
        refine wp_loop_rounds 3 ?_
        rw[rounds_succ]
        go_wp2_with (go_at_call 41;(with_reducible refine(c2 _).mono ?_);rintro e w' ⟨rfl,rfl⟩)
        rw[rounds_succ]
        go_wp2_with (go_at_call 41;(with_reducible refine(c1 _).mono ?_);rintro e w' ⟨rfl,rfl⟩)
        rw[rounds_succ]
        go_wp2_with (go_at_call 42;(with_reducible refine(cf _).mono ?_);rintro e W2 ⟨rfl,hb⟩;(replace hN:=hN.go hb);clear hb;(have k0:W2.cell? ⟨w.heap.size,0,none⟩=some (.int .i64 0):=aA hN.h4 0);(have k1:W2.cell? ⟨w.heap.size,1,none⟩=some (.int .i64 0):=aA hN.h4 1);(have k2:W2.cell? ⟨w.heap.size,2,none⟩=some (.string ⟨#[]⟩):=aA hN.h4 2);(have k3:W2.cell? ⟨w.heap.size,3,none⟩=some (.int .i64 0):=aA hN.h4 3);(have k4:W2.cell? ⟨w.heap.size,4,none⟩=some (.int .u64 0):=aA hN.h4 4);(have k5:W2.cell? ⟨w.heap.size+1,0,none⟩=some (.int .i64 0):=aA hN.h6 0);(have k6:W2.cell? ⟨w.heap.size+1,1,none⟩=some (.int .i64 0):=aA hN.h6 1);(have z4:=aC hN.h4);(have z6:=aC hN.h6);(have dL:=hid hN);clear hN)
        refine bodyPost_ret (dG rfl _ _ w.heap.size (w.heap.size+1) _ _ _ _ _ _ _ _ (0,0) (0,0) rfl rfl rfl (dL.out.fin _ _ _ _ _ _ _).1 (dL.out.fin _ _ _ _ _ _ _).2.1) rfl ?_
        exact⟨rfl,(dL.out.fin _ _ _ _ _ _ _).2.2⟩
def UA(p:Pc):Prop:=p.t.kind≠7
theorem AV{a b:Pc}(ha:UA a)(hb:UA b):UA (jK a b):=by
 unfold jK
 split
 ·exact hb
 ·exact ha
theorem yh:∀ (f:Nat) (r:List UInt8) (k:Nat) (acc:List UInt8),UA (bq f r k acc)
 | 0,r,k,acc=>by unfold bq;show (0:Int)≠7;decide
 | f+1,[],k,acc=>by rw[jP];show (0:Int)≠7;decide
 | f+1,c::q,k,acc=>by
  by_cases c1:c=34
  ·rw[iR (f+1) k c q acc (by omega) c1]
   show (6:Int)≠7;decide
  ·by_cases c2:(bZ (c::q)).2=0
   ·rw[jQ (f+1) k c q acc (by omega) c1 c2]
    show (0:Int)≠7;decide
   ·rw[kM f k c q acc c1 c2]
    exact yh f _ _ _
theorem CF(r:List UInt8):UA (iK r):=by
 have z:∀n c,UA (gG n c):=λn c=>show (0:Int)≠7 by decide
 have zn:UA lJ:=show (0:Int)≠7 by decide
 unfold iK
 refine AV ?_ (AV ?_ (AV ?_ (AV ?_ ?_)))
 ·unfold nameP
  split
  ·exact zn
  ·split
   ·exact z _ _
   ·show (kD _).kind≠7
    unfold kD
    split
    ·show (5:Int)≠7;decide
    ·split
     ·show (5:Int)≠7;decide
     ·split
      ·show (2:Int)≠7;decide
      ·show (1:Int)≠7;decide
 ·unfold fC
  split
  ·split
   ·show (5:Int)≠7;decide
   ·exact z _ _
  ·exact zn
 ·unfold fJ
  split
  ·exact zn
  ·split
   ·show (4:Int)≠7;decide
   ·exact z _ _
 ·unfold dh
  split
  ·rcases mo (bq r.length (r.drop 1) 1 []) with g|⟨_,g⟩
   ·rw[g];exact yh _ _ _ _
   ·rw[g];exact z _ _
  ·exact zn
 ·unfold kP
  split
  ·show (3:Int)≠7;decide
  ·exact zn
def XD(l:List UInt8)(k:Nat)(t:Tk)(x y c f:Int):Prop:=
 (c≠0/\T (l.drop k) k=[⟨gX,0,c,f⟩])\/(c=0/\f=0/\t.kind=7/\T (l.drop k) k=[⟨t,x,0,0⟩])\/(c=0/\f=0/\t.kind≠7/\∃m:Nat,y=(m:Int)/\k<m/\m<=l.length/\T (l.drop k) k=⟨t,x,0,0⟩::T (l.drop m) m)
theorem Ik(l:List UInt8)(k:Nat)(hk:k<=l.length)(h:pV (l.drop k)):∃t x y c f,nextR (l.drop k) k=.tuple #[tv t x,.int .i64 y,.agg #[.int .i64 c,.int .i64 f]]/\XD l k t x y c f:=by
 unfold nextR
 by_cases e:l.drop k=[]
 ·rw[if_pos e]
  refine⟨_,_,_,_,_,rfl,.inr (.inl ⟨rfl,rfl,rfl,?_⟩)⟩
  rw[e,Qu]
 ·rw[if_neg e]
  have hp:=wK _ h
  have hst:=uG (r:=l.drop k) (a:=k) e
  rw[hp] at hst
  have hle:=jY (l.drop k)
  rw[hp,aY] at hle
  unfold yg
  by_cases c1:(iK (l.drop k)).size=0
  ·rw[if_pos c1]
   rw[if_pos c1] at hst
   exact⟨_,_,_,_,_,rfl,.inl ⟨by decide,hst⟩⟩
  ·rw[if_neg c1]
   rw[if_neg c1] at hst
   by_cases c2:(iK (l.drop k)).code=0
   ·rw[if_neg (λh=>h c2)]
    rw[if_neg (λh=>h c2)] at hst
    have k0:(iK (l.drop k)).t.kind≠0:=Bz _ c1 c2
    rw[if_pos k0] at hst
    refine⟨_,_,_,_,_,rfl,.inr (.inr ⟨rfl,rfl,CF _,k+(iK (l.drop k)).size,rfl,by omega,by omega,?_⟩)⟩
    rw[hst,List.drop_drop]
   ·rw[if_pos c2]
    rw[if_pos c2] at hst
    exact⟨_,_,_,_,_,rfl,.inl ⟨c2,hst⟩⟩
end Go.Proofs.YtgchnkgolclmgaaGreatDoor.W
