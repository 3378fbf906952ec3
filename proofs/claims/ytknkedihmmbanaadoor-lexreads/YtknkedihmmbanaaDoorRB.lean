import Derived.Test.YtknkedihmmbanaaDoorRA
import Derived.Test.YtknkedihmmbanaaDoorRS4J
import Derived.Test.YtknkedihmmbanaaDoorRI4J
open List renaming length_drop → z7z, length_take → z9z, mem_append → z10z, drop_eq_nil_of_le → z12z, length_append → z14z
open Array renaming getElem?_eq_some_iff → z13z
open Nat renaming le_refl → z1z
open Go.World renaming alloc → z0z, alloc_heap_new → z8z, size_alloc → z11z, block_lt_of_cell? → z15z
open Go.RowKit.Below renaming heap_setCell → z3z, refl → z4z
open Go.IntKind renaming i64 → z5z, wrap_i64 → z6z
open And renaming intro → z2z
open Go.Proofs.Tryd
set_option maxRecDepth 1000000
set_option maxHeartbeats 8000000
namespace Go.Proofs.YtknkedihmmbanaaDoor.W
open Go.ChangeShapes Go.WideShapes Go.RowKit Go.Shelf
set_option linter.unusedVariables false
set_option linter.unusedSimpArgs false
def nxR(p:Pc)(a:Nat):Value:=if p.size=0 then .tuple #[tv noTk 0,.int .i64 (a:Nat),.agg #[.int .i64 60,.int .i64 (a:Nat)]] else if p.code≠0 then .tuple #[tv noTk 0,.int .i64 (a:Nat),.agg #[.int .i64 p.code,.int .i64 (a:Nat)]] else .tuple #[tv p.t (a:Nat),.int .i64 ((a+p.size:Nat):Int),.agg #[.int .i64 0,.int .i64 0]]
theorem nx_bad(n:Nat)(c:Int)(a:Nat)(hn:n≠0)(hc:c≠0):nxR (badPc n c) a=.tuple #[tv noTk 0,.int .i64 (a:Nat),.agg #[.int .i64 c,.int .i64 (a:Nat)]]:=by
 unfold nxR
 rw[if_neg (show ¬ (badPc n c).size=0 from hn),if_pos (show (badPc n c).code≠0 from hc)]
 rfl
theorem nx_ok(t:Tk)(n a:Nat)(hn:n≠0):nxR (okPc t n) a=.tuple #[tv t (a:Nat),.int .i64 ((a+n:Nat):Int),.agg #[.int .i64 0,.int .i64 0]]:=by
 unfold nxR
 rw[if_neg (show ¬ (okPc t n).size=0 from hn),if_neg (λh=>h rfl)]
 rfl
theorem nx_ret{fn:Func}{p q r:Tmp}(h:fn.results = #[.cell p 30,.tmp q,.cell r 25])(tmps:Array Value)(w:World)(b4 b6:Nat)(v0 v1 v2 v3 v4 c a u:Value)(fr fr':Nat × Nat)(hp:tmps.getD p undef=.pointer (some ⟨b4,0,none⟩))(hq:tmps.getD q undef=u)(hr:tmps.getD r undef=.pointer (some ⟨b6,0,none⟩))(hg:w.heap[b4]? = some (.cells #[v0,v1,v2,v3,v4] 30 fr))(hg3:w.heap[b6]? = some (.cells #[c,a] 25 fr')):(results fn tmps).run prog w=.ok (.tuple #[.agg #[v0,v1,v2,v3,v4],u,.agg #[c,a]]) w:=by
 obtain⟨d,hu,hd⟩:=ftT
 have hl:=run_loadVar_row (P:=prog) w b6 25 25 #[c,a] fr' d hg3 hu (by cases d <;> first|rfl|exact hd) (by rw[ftSz];rfl)
 have ht:=tkT
 cases hu2:prog.underlying 30 with
 | none=>rw[hu2] at ht;cases ht
 | some d2=>
  rw[hu2] at ht
  simp only[Option.map_some,Option.some.injEq] at ht
  have hl2:=run_loadVar_row (P:=prog) w b4 30 30 #[v0,v1,v2,v3,v4] fr d2 hg hu2 (by cases d2 <;> first|rfl|exact ht) (by rw[tkSz];rfl)
  have hp':tmps[p]?.getD undef=.pointer (some ⟨b4,0,none⟩):=by simpa using hp
  have hq':tmps[q]?.getD undef=u:=by simpa using hq
  have hr':tmps[r]?.getD undef=.pointer (some ⟨b6,0,none⟩):=by simpa using hr
  simp[results,h,hp',hq',hr',asAddr,hl,hl2]
theorem rFault_c(c:Int)(a:Nat)(w:World):Calls prog 30 #[.int .i64 c,.int .i64 a] w λe w'=>e=.returned (.tuple #[tv noTk 0,.int .i64 (a:Nat),.agg #[.int .i64 c,.int .i64 (a:Nat)]])/\Below w.heap.size w w':=by
 go_enter func30,ntmps30
 go_wp2
 have g4:((w.alloc (.cells #[.int .i64 0,.int .i64 0,.string ⟨#[]⟩,.int .i64 0,.int .u64 0] 30)).alloc (.cells #[.int .i64 c,.int .i64 (a:Nat)] 25)).heap[w.heap.size]? = some (.cells #[.int .i64 0,.int .i64 0,.string ⟨#[]⟩,.int .i64 0,.int .u64 0] 30 (0,0)):=(Below.heap_alloc _ _ _ (by simp)).trans (z8z w _)
 have g6:((w.alloc (.cells #[.int .i64 0,.int .i64 0,.string ⟨#[]⟩,.int .i64 0,.int .u64 0] 30)).alloc (.cells #[.int .i64 c,.int .i64 (a:Nat)] 25)).heap[w.heap.size+1]? = some (.cells #[.int .i64 c,.int .i64 (a:Nat)] 25 (0,0)):=by
  have:=z8z (w.alloc (.cells #[.int .i64 0,.int .i64 0,.string ⟨#[]⟩,.int .i64 0,.int .u64 0] 30)) (.cells #[.int .i64 c,.int .i64 (a:Nat)] 25)
  rwa [z11z] at this
 refine bodyPost_ret (nx_ret rfl _ _ _ _ _ _ _ _ _ _ _ _ (0,0) (0,0) rfl rfl rfl g4 g6) rfl ?_
 exact⟨rfl,((z4z _ w).alloc (z1z _) _).alloc (by simp) _⟩
structure Nx0 (w W:World):Prop where
 bel:Below w.heap.size w W
 h4:W.heap[w.heap.size]? = some (.cells #[.int .i64 0,.int .i64 0,.string ⟨#[]⟩,.int .i64 0,.int .u64 0] 30 (0,0))
 h6:W.heap[w.heap.size+1]? = some (.cells #[.int .i64 0,.int .i64 0] 25 (0,0))
theorem Nx0.start(w:World):Nx0 w ((w.alloc (.cells #[.int .i64 0,.int .i64 0,.string ⟨#[]⟩,.int .i64 0,.int .u64 0] 30)).alloc (.cells #[.int .i64 0,.int .i64 0] 25)):=by
 refine⟨((z4z _ w).alloc (z1z _) _).alloc (by simp) _,(Below.heap_alloc _ _ _ (by simp)).trans (z8z w _),?_⟩
 have:=z8z (w.alloc (.cells #[.int .i64 0,.int .i64 0,.string ⟨#[]⟩,.int .i64 0,.int .u64 0] 30)) (.cells #[.int .i64 0,.int .i64 0] 25)
 rwa [z11z] at this
theorem Nx0.go{w W W':World}(h:Nx0 w W)(hb:Below W.heap.size W W'):Nx0 w W':=⟨h.bel.trans (hb.mono h.bel.size),row_keepX h.h4 hb,row_keepX h.h6 hb⟩
theorem Nx0.fin{w W:World}(h:Nx0 w W)(v0 v1 v2 v3 v4 c f:Value) :
  (((((((W.setCell ⟨w.heap.size,0,none⟩ v0).setCell ⟨w.heap.size,1,none⟩ v1).setCell ⟨w.heap.size,2,none⟩ v2).setCell ⟨w.heap.size,3,none⟩ v3).setCell ⟨w.heap.size,4,none⟩ v4).setCell ⟨w.heap.size+1,0,none⟩ c).setCell ⟨w.heap.size+1,1,none⟩ f).heap[w.heap.size]? = some (.cells #[v0,v1,v2,v3,v4] 30 (0,0)) /\
  (((((((W.setCell ⟨w.heap.size,0,none⟩ v0).setCell ⟨w.heap.size,1,none⟩ v1).setCell ⟨w.heap.size,2,none⟩ v2).setCell ⟨w.heap.size,3,none⟩ v3).setCell ⟨w.heap.size,4,none⟩ v4).setCell ⟨w.heap.size+1,0,none⟩ c).setCell ⟨w.heap.size+1,1,none⟩ f).heap[w.heap.size+1]? = some (.cells #[c,f] 25 (0,0)) /\
  Below w.heap.size w (((((((W.setCell ⟨w.heap.size,0,none⟩ v0).setCell ⟨w.heap.size,1,none⟩ v1).setCell ⟨w.heap.size,2,none⟩ v2).setCell ⟨w.heap.size,3,none⟩ v3).setCell ⟨w.heap.size,4,none⟩ v4).setCell ⟨w.heap.size+1,0,none⟩ c).setCell ⟨w.heap.size+1,1,none⟩ f):=by
 have h5:=five_setX h.h4 v0 v1 v2 v3 v4
 have b5:=five_belowX h.bel (gb:=w.heap.size) (z1z _) v0 v1 v2 v3 v4
 have o5:(((((W.setCell ⟨w.heap.size,0,none⟩ v0).setCell ⟨w.heap.size,1,none⟩ v1).setCell ⟨w.heap.size,2,none⟩ v2).setCell ⟨w.heap.size,3,none⟩ v3).setCell ⟨w.heap.size,4,none⟩ v4).heap[w.heap.size+1]? = some (.cells #[.int .i64 0,.int .i64 0] 25 (0,0)):=((((z3z _ _ _ _ (by show w.heap.size+1≠w.heap.size;omega)).trans (z3z _ _ _ _ (by show w.heap.size+1≠w.heap.size;omega))).trans (z3z _ _ _ _ (by show w.heap.size+1≠w.heap.size;omega))).trans (z3z _ _ _ _ (by show w.heap.size+1≠w.heap.size;omega))).trans ((z3z _ _ _ _ (by show w.heap.size+1≠w.heap.size;omega)).trans h.h6)
 generalize ((((W.setCell ⟨w.heap.size,0,none⟩ v0).setCell ⟨w.heap.size,1,none⟩ v1).setCell ⟨w.heap.size,2,none⟩ v2).setCell ⟨w.heap.size,3,none⟩ v3).setCell ⟨w.heap.size,4,none⟩ v4=W5 at *
 refine⟨((z3z _ _ _ _ (by show w.heap.size≠w.heap.size+1;omega)).trans (z3z _ _ _ _ (by show w.heap.size≠w.heap.size+1;omega))).trans h5,heap_setX (c:=[c,.int .i64 0]) (heap_setX (c:=[.int .i64 0,.int .i64 0]) o5 0 c) 1 f,(b5.setCell (p:=⟨w.heap.size+1,0,none⟩) (by show w.heap.size<=w.heap.size+1;omega) c).setCell (p:=⟨w.heap.size+1,1,none⟩) (by show w.heap.size<=w.heap.size+1;omega) f⟩
theorem ext_take(s:ByteArray)(a n:Nat):(s.extract a (a+n)).data.toList=(s.data.toList.drop a).take n:=by
 simp[List.drop_take]
theorem rName_core(s S:ByteArray)(hs:s.size<=1000000)(a n tE:Nat)(hto:tE=a+n)(hn0:n≠0)(han:a+n<=s.size)(hn:runN nameB (s.data.toList.drop a)=n)(hS:s.extract a tE=S)(hSz:S.size=n)(R:Value)
  (ways:(31<n/\R=.tuple #[tv noTk 0,.int .i64 (a:Nat),.agg #[.int .i64 63,.int .i64 (a:Nat)]])\/(¬31<n/\((∃x:Int,((S.toList==[105,110,102])=true\/((S.toList==[105,110,102])=false/\(S.toList==[110,97,110])=true))/\(∀w,Calls prog 47 #[.string S] w λe w'=>e=.returned (.tuple #[.int .u64 x,.int .i64 0])/\Below w.heap.size w w')/\R=.tuple #[tv ⟨5,⟨#[]⟩,0,x⟩ (a:Nat),.int .i64 (tE:Int),.agg #[.int .i64 0,.int .i64 0]]) \/
   (∃b:Bool,(S.toList==[105,110,102])=false/\(S.toList==[110,97,110])=false/\(∀w,Calls prog 48 #[.string S] w λe w'=>e=.returned (.bool b)/\w'=w)/\R=.tuple #[tv ⟨if b=true then 2 else 1,S,0,0⟩ (a:Nat),.int .i64 (tE:Int),.agg #[.int .i64 0,.int .i64 0]])))) (w:World) :
  Calls prog 25 #[.string s,.int .i64 a] w λe w'=>e=.returned R/\Below w.heap.size w w':=by
 have cg:=rGoesOn_c
 have cf:=rFault_c 63 a
 simp only[tv,noTk] at cf
 have HS:=hid hs
 have HA:=hid (z2z han hn)
 have HE:=hid (z2z hS hSz)
 have HTO:=hid hto
 have HW:=hid ways
 have HN0:=hid hn0
 have hN:=Nx0.start w
 clear hs han hn hS hSz ways hn0 hto
 go_enter func25,ntmps25
 go_upto_region 1 with fail
 generalize z0z (z0z w _) _=W at *
 have HN:=hid hN
 clear hN
 go_wp2_with fail
 go_loop [7] (λi=>∃k:Nat,i=.int .i64 k/\a<=k/\k<=s.size/\runN nameB (s.data.toList.drop k)+k=tE) (λi=>s.size-(intOf i).toNat)
 case atStart=>exact⟨a,rfl,z1z _,by have:=HA.out.1;omega,by have:=HA.out.2;have:=HTO.out;omega⟩
 case round=>
  obtain⟨k,rfl,h1,h2,h3⟩:=hrel
  have e1:z5z.wrap ((k:Int)+1)=((k+1:Nat):Int):=by have:=HS.out;rw[z6z];omega
  have e2:wrap64 ((k:Int)+1)=((k+1:Nat):Int):=by have:=HS.out;unfold wrap64;omega
  have on:(k<s.size/\∃h:k<s.size,nameB s[k]=true)\/(k=tE/\(¬k<s.size\/∃h:k<s.size,nameB s[k]=false)):=by
   by_cases c:k<s.size
   ·have hd:=drop_cons s k c
    cases b:nameB s[k]
    ·right
     rw[hd,runN_cons_f b] at h3
     exact⟨by omega,.inr ⟨c,b⟩⟩
    ·exact .inl ⟨c,c,b⟩
   ·right
    rw[z12z (by rw[size_list];omega)] at h3
    exact⟨by have:runN nameB []=0:=rfl;omega,.inl c⟩
  rcases on with⟨_,c,b⟩|⟨ek,hx⟩
  ·have hd:=drop_cons s k c
   have cgk:=cg s[k]
   rw[b] at cgk
   have c1:(k:Int)<(s.size:Int):=by omega
   have c0:(0:Int)<=(k:Int):=by omega
   have fin:=hid (show runN nameB (s.data.toList.drop (k+1))+(k+1)=tE by rw[hd,runN_cons_t b] at h3;omega)
   have HH:=hid (z2z h1 c)
   clear h1 h2 h3 hd b
   go_wp2_with (go_at_call 46;(with_reducible refine(cgk _).mono ?_);rintro e w' ⟨rfl,rfl⟩)
   go_round
   case rel=>exact⟨k+1,by go_num,by have:=HH.out.1;omega,HH.out.2,fin.out⟩
   case measure=>have:=HH.out.2;simp[intOf];omega
  ·subst ek
   obtain⟨hS,hSz⟩:=HE.out
   have l0:(0:Int)<=(a:Int):=by omega
   have l1:(a:Int)<=(k:Int):=by omega
   have l2:(k:Int)<=(s.size:Int):=by omega
   have ex:(¬ (k:Int)<(s.size:Int))\/∃h:k<s.size,∀w,Calls prog 46 #[.int .u8 s[k].toNat] w λe w'=>e=.returned (.bool false)/\w'=w:=by
    rcases hx with hx|⟨h,hb⟩
    ·left;omega
    ·right;exact⟨h,λw=>by have:=cg s[k] w;rw[hb] at this;exact this⟩
   have HSZ:=hid hSz
   clear hx h1 h2 h3 hSz e1 e2 cg
   have hN:=HN.out
   rcases HW.out with⟨b1,hR⟩|⟨b1,⟨x,hb,cp,hR⟩|⟨b,hb1,hb2,cr,hR⟩⟩
   ·have z1:(S.size:Int)>31:=by have:=HSZ.out;omega
    have HR:=hid hR
    clear hR b1 HW
    rcases ex with ex|⟨hk,cgk⟩
    all_goals (
     go_wp2_with (first|(go_at_call 46;(with_reducible refine(cgk _).mono ?_);rintro e w' ⟨rfl,rfl⟩)|(go_at_call 30;(with_reducible refine(cf _).mono ?_);rintro e W2 ⟨rfl,hb⟩;(replace hN:=hN.go hb);clear hb;(have k0:W2.cell? ⟨w.heap.size,0,none⟩=some (.int .i64 0):=row_cellsX hN.h4 0);(have k1:W2.cell? ⟨w.heap.size,1,none⟩=some (.int .i64 0):=row_cellsX hN.h4 1);(have k2:W2.cell? ⟨w.heap.size,2,none⟩=some (.string ⟨#[]⟩):=row_cellsX hN.h4 2);(have k3:W2.cell? ⟨w.heap.size,3,none⟩=some (.int .i64 0):=row_cellsX hN.h4 3);(have k4:W2.cell? ⟨w.heap.size,4,none⟩=some (.int .u64 0):=row_cellsX hN.h4 4);(have k5:W2.cell? ⟨w.heap.size+1,0,none⟩=some (.int .i64 0):=row_cellsX hN.h6 0);(have k6:W2.cell? ⟨w.heap.size+1,1,none⟩=some (.int .i64 0):=row_cellsX hN.h6 1);(have z4:=row_thawX hN.h4);(have z6:=row_thawX hN.h6);(have HN2:=hid hN);clear hN))
     refine bodyPost_ret (nx_ret rfl _ _ w.heap.size (w.heap.size+1) _ _ _ _ _ _ _ _ (0,0) (0,0) rfl rfl rfl (HN2.out.fin _ _ _ _ _ _ _).1 (HN2.out.fin _ _ _ _ _ _ _).2.1) rfl ?_
     exact⟨by rw[HR.out];rfl,(HN2.out.fin _ _ _ _ _ _ _).2.2⟩)
   ·have z1:¬ (S.size:Int)>31:=by have:=HSZ.out;omega
    have HR:=hid hR
    clear hR b1 HW
    rcases hb with hb|⟨hb,hb2⟩
    all_goals rcases ex with ex|⟨hk,cgk⟩
    all_goals (
     go_wp2_with (first|(go_at_call 46;(with_reducible refine(cgk _).mono ?_);rintro e w' ⟨rfl,rfl⟩)|(go_at_call 47;(with_reducible refine(cp _).mono ?_);rintro e W2 ⟨rfl,hb⟩;(replace hN:=hN.go hb);clear hb;(have k0:W2.cell? ⟨w.heap.size,0,none⟩=some (.int .i64 0):=row_cellsX hN.h4 0);(have k1:W2.cell? ⟨w.heap.size,1,none⟩=some (.int .i64 0):=row_cellsX hN.h4 1);(have k2:W2.cell? ⟨w.heap.size,2,none⟩=some (.string ⟨#[]⟩):=row_cellsX hN.h4 2);(have k3:W2.cell? ⟨w.heap.size,3,none⟩=some (.int .i64 0):=row_cellsX hN.h4 3);(have k4:W2.cell? ⟨w.heap.size,4,none⟩=some (.int .u64 0):=row_cellsX hN.h4 4);(have k5:W2.cell? ⟨w.heap.size+1,0,none⟩=some (.int .i64 0):=row_cellsX hN.h6 0);(have k6:W2.cell? ⟨w.heap.size+1,1,none⟩=some (.int .i64 0):=row_cellsX hN.h6 1);(have z4:=row_thawX hN.h4);(have z6:=row_thawX hN.h6);(have HN2:=hid hN);clear hN))
     refine bodyPost_ret (nx_ret rfl _ _ w.heap.size (w.heap.size+1) _ _ _ _ _ _ _ _ (0,0) (0,0) rfl rfl rfl (HN2.out.fin _ _ _ _ _ _ _).1 (HN2.out.fin _ _ _ _ _ _ _).2.1) rfl ?_
     exact⟨by rw[HR.out];rfl,(HN2.out.fin _ _ _ _ _ _ _).2.2⟩)
   ·have z1:¬ (S.size:Int)>31:=by have:=HSZ.out;omega
    have HR:=hid hR
    have HN2:=hid hN
    have k0:W.cell? ⟨w.heap.size,0,none⟩=some (.int .i64 0):=row_cellsX hN.h4 0;have k1:W.cell? ⟨w.heap.size,1,none⟩=some (.int .i64 0):=row_cellsX hN.h4 1;have k2:W.cell? ⟨w.heap.size,2,none⟩=some (.string ⟨#[]⟩):=row_cellsX hN.h4 2;have k3:W.cell? ⟨w.heap.size,3,none⟩=some (.int .i64 0):=row_cellsX hN.h4 3;have k4:W.cell? ⟨w.heap.size,4,none⟩=some (.int .u64 0):=row_cellsX hN.h4 4;have k5:W.cell? ⟨w.heap.size+1,0,none⟩=some (.int .i64 0):=row_cellsX hN.h6 0;have k6:W.cell? ⟨w.heap.size+1,1,none⟩=some (.int .i64 0):=row_cellsX hN.h6 1;have z4:=row_thawX hN.h4;have z6:=row_thawX hN.h6
    clear hR b1 HW hN
    cases b
    all_goals rcases ex with ex|⟨hk,cgk⟩
    all_goals (
     go_wp2_with ((with_reducible (apply Calls.mono;first|exact cgk _|exact cr _));rintro e w' ⟨rfl,rfl⟩)
     refine bodyPost_ret (nx_ret rfl _ _ w.heap.size (w.heap.size+1) _ _ _ _ _ _ _ _ (0,0) (0,0) rfl rfl rfl (HN2.out.fin _ _ _ _ _ _ _).1 (HN2.out.fin _ _ _ _ _ _ _).2.1) rfl ?_
     exact⟨by rw[HR.out];rfl,(HN2.out.fin _ _ _ _ _ _ _).2.2⟩)
theorem start_dig(c:UInt8)(h:startB c=true):digB c=false/\nameB c=true:=by
 rw[name_start,h]
 refine⟨?_,rfl⟩
 unfold startB at h
 unfold digB
 simp at h ⊢
 omega
theorem readF_inf:readF infT=(9218868437227405312,0):=by kernel_rfl
theorem readF_nan:readF nanT=(9221120237041090560,0):=by kernel_rfl
theorem rName_c(s:ByteArray)(hs:s.size<=1000000)(a:Nat)(ha:a<s.size)(hst:startB s[a]=true)(w:World):Calls prog 25 #[.string s,.int .i64 a] w λe w'=>e=.returned (nxR (nameP (s.data.toList.drop a)) a)/\Below w.heap.size w w':=by
 have hd:=drop_cons s a ha
 obtain⟨d1,d2⟩:=start_dig _ hst
 obtain⟨n,hn⟩:∃n,runN nameB (s.data.toList.drop a)=n:=⟨_,rfl⟩
 have hle:=runN_le nameB (s.data.toList.drop a)
 rw[z7z,size_list,hn] at hle
 have hn0:n≠0:=by rw[<- hn,hd,runN_cons_t d2];omega
 obtain⟨S,hS⟩:∃S,s.extract a (a+n)=S:=⟨_,rfl⟩
 have hSl:S.data.toList=(s.data.toList.drop a).take n:=by rw[<- hS];exact ext_take s a n
 have hSz:S.size=n:=by rw[<- size_list,hSl,z9z,z7z,size_list];omega
 have hnp:nameP (s.data.toList.drop a)=if 31<n then badPc n 63 else okPc (namedT ((s.data.toList.drop a).take n)) n:=by
  unfold nameP
  rw[hn,if_neg]
  rintro(h|h)
  ·exact hn0 h
  ·rw[hd] at h
   have:digB s[a]=true:=h
   rw[d1] at this
   cases this
 rw[hnp]
 refine rName_core s S hs a n (a+n) rfl hn0 (by omega) hn hS hSz _ ?_ w
 by_cases c:31<n
 ·left
  rw[if_pos c]
  exact⟨c,nx_bad n 63 a hn0 (by decide)⟩
 ·right
  rw[if_neg c,nx_ok _ n a hn0,<- hSl]
  refine⟨c,?_⟩
  have hSL:S.toList=S.data.toList:=toList_eq S
  rw[hSL]
  have cp:=λw=>refParseFloat_c S (by rw[hSz];unfold maxLen;omega) w
  unfold namedT
  by_cases i1:S.data.toList=infT
  ·left
   rw[i1,readF_inf] at cp
   refine⟨9218868437227405312,.inl (by rw[i1];rfl),cp,by rw[if_pos i1]⟩
  ·have n1:(S.data.toList==[105,110,102])=false:=by rw[beq_eq_false_iff_ne];exact i1
   by_cases i2:S.data.toList=nanT
   ·left
    rw[i2,readF_nan] at cp
    refine⟨9221120237041090560,.inr ⟨n1,by rw[i2];rfl⟩,cp,by rw[if_neg i1,if_pos i2]⟩
   ·right
    have n2:(S.data.toList==[110,97,110])=false:=by rw[beq_eq_false_iff_ne];exact i2
    refine⟨decide (S.data.toList ∈ words),n1,n2,λw=>rReserved_c S w,?_⟩
    rw[if_neg i1,if_neg i2]
    by_cases i3:S.data.toList ∈ words
    ·rw[if_pos i3,decide_eq_true i3,bytes_self];rfl
    ·rw[if_neg i3,decide_eq_false i3,bytes_self];rfl
theorem rWhole_core(s S:ByteArray)(hs:s.size<=1000000)(a n tE:Nat)(ha:a<s.size)(hto:tE=a+n)(hn0:n≠0)(han:a+n<=s.size)(hn:runN digB (s.data.toList.drop a)=n)(hS:s.extract a tE=S)(x c:Int)(cp:∀w,Calls prog 50 #[.string S] w λe w'=>e=.returned (.tuple #[.int .i64 x,.int .i64 c])/\w'=w)(hx:(((s[a].toNat:Int)==48)=false)\/(((s[a].toNat:Int)==48)=true/\(¬ ((a+1:Nat):Int)<(s.size:Int)\/∃h:a+1<s.size,((s[a+1].toNat:Int)==120)=false)))(R:Value)
  (ways:(c≠0/\R=.tuple #[tv noTk 0,.int .i64 (a:Nat),.agg #[.int .i64 62,.int .i64 (a:Nat)]])\/(c=0/\R=.tuple #[tv ⟨4,⟨#[]⟩,x,0⟩ (a:Nat),.int .i64 (tE:Int),.agg #[.int .i64 0,.int .i64 0]])) (w:World) :
  Calls prog 27 #[.string s,.int .i64 a] w λe w'=>e=.returned R/\Below w.heap.size w w':=by
 have cg:=rDigit_c
 have cf:=rFault_c 62 a
 simp only[tv,noTk] at cf
 have HS:=hid hs
 have HA:=hid (z2z han hn)
 have HTO:=hid hto
 have HE:=hid hS
 have HW:=hid ways
 have hN:=Nx0.start w
 have a0:(0:Int)<=(a:Int):=by omega
 have a1:(a:Int)<(s.size:Int):=by omega
 have a2:z5z.wrap ((a:Int)+1)=((a+1:Nat):Int):=by rw[z6z];omega
 have a3:wrap64 ((a:Int)+1)=((a+1:Nat):Int):=by unfold wrap64;omega
 have a4:(0:Int)<=((a+1:Nat):Int):=by omega
 clear hs han hn hS ways hn0 hto
 rcases hx with hx|⟨hx,hy|⟨hy1,hy2⟩⟩
 all_goals (
  (try have a5:((a+1:Nat):Int)<(s.size:Int):=by omega)
  go_enter func27,ntmps27
  go_upto_region 1 with fail
  generalize z0z (z0z w _) _=W at *
  have HN:=hid hN
  clear hN
  go_wp2_with fail
  go_loop [7] (λi=>∃k:Nat,i=.int .i64 k/\a<=k/\k<=s.size/\runN digB (s.data.toList.drop k)+k=tE) (λi=>s.size-(intOf i).toNat)
  case atStart=>exact⟨a,rfl,z1z _,by have:=HA.out.1;omega,by have:=HA.out.2;have:=HTO.out;omega⟩
  case round=>
   obtain⟨k,rfl,h1,h2,h3⟩:=hrel
   have e1:z5z.wrap ((k:Int)+1)=((k+1:Nat):Int):=by have:=HS.out;rw[z6z];omega
   have e2:wrap64 ((k:Int)+1)=((k+1:Nat):Int):=by have:=HS.out;unfold wrap64;omega
   have on:(k<s.size/\∃h:k<s.size,digB s[k]=true)\/(k=tE/\(¬k<s.size\/∃h:k<s.size,digB s[k]=false)):=by
    by_cases c:k<s.size
    ·have hd:=drop_cons s k c
     cases b:digB s[k]
     ·right
      rw[hd,runN_cons_f b] at h3
      exact⟨by omega,.inr ⟨c,b⟩⟩
     ·exact .inl ⟨c,c,b⟩
    ·right
     rw[z12z (by rw[size_list];omega)] at h3
     exact⟨by have:runN digB []=0:=rfl;omega,.inl c⟩
   rcases on with⟨_,c,b⟩|⟨ek,hx2⟩
   ·have hd:=drop_cons s k c
    have cgk:=cg s[k]
    rw[b] at cgk
    have c1:(k:Int)<(s.size:Int):=by omega
    have c0:(0:Int)<=(k:Int):=by omega
    have fin:=hid (show runN digB (s.data.toList.drop (k+1))+(k+1)=tE by rw[hd,runN_cons_t b] at h3;omega)
    have HH:=hid (z2z h1 c)
    clear h1 h2 h3 hd b
    go_wp2_with (go_at_call 26;(with_reducible refine(cgk _).mono ?_);rintro e w' ⟨rfl,rfl⟩)
    go_round
    case rel=>exact⟨k+1,by go_num,by have:=HH.out.1;omega,HH.out.2,fin.out⟩
    case measure=>have:=HH.out.2;simp[intOf];omega
   ·subst ek
    have hS:=HE.out
    have l1:(a:Int)<=(k:Int):=by omega
    have l2:(k:Int)<=(s.size:Int):=by omega
    have ex:(¬ (k:Int)<(s.size:Int))\/∃h:k<s.size,∀w,Calls prog 26 #[.int .u8 s[k].toNat] w λe w'=>e=.returned (.bool false)/\w'=w:=by
     rcases hx2 with hx2|⟨h,hb⟩
     ·left;omega
     ·right;exact⟨h,λw=>by have:=cg s[k] w;rw[hb] at this;exact this⟩
    clear hx2 h1 h2 h3 e1 e2 cg
    have hN:=HN.out
    rcases HW.out with⟨b1,hR⟩|⟨b1,hR⟩
    ·have HR:=hid hR
     clear hR HW
     rcases ex with ex|⟨hk,cgk⟩
     all_goals (
      go_wp2_with (first|((with_reducible (apply Calls.mono;first|exact cgk _|exact cp _));rintro e w' ⟨rfl,rfl⟩)|(go_at_call 30;(with_reducible refine(cf _).mono ?_);rintro e W2 ⟨rfl,hb⟩;(replace hN:=hN.go hb);clear hb;(have k0:W2.cell? ⟨w.heap.size,0,none⟩=some (.int .i64 0):=row_cellsX hN.h4 0);(have k1:W2.cell? ⟨w.heap.size,1,none⟩=some (.int .i64 0):=row_cellsX hN.h4 1);(have k2:W2.cell? ⟨w.heap.size,2,none⟩=some (.string ⟨#[]⟩):=row_cellsX hN.h4 2);(have k3:W2.cell? ⟨w.heap.size,3,none⟩=some (.int .i64 0):=row_cellsX hN.h4 3);(have k4:W2.cell? ⟨w.heap.size,4,none⟩=some (.int .u64 0):=row_cellsX hN.h4 4);(have k5:W2.cell? ⟨w.heap.size+1,0,none⟩=some (.int .i64 0):=row_cellsX hN.h6 0);(have k6:W2.cell? ⟨w.heap.size+1,1,none⟩=some (.int .i64 0):=row_cellsX hN.h6 1);(have z4:=row_thawX hN.h4);(have z6:=row_thawX hN.h6);(have HN2:=hid hN);clear hN))
      refine bodyPost_ret (nx_ret rfl _ _ w.heap.size (w.heap.size+1) _ _ _ _ _ _ _ _ (0,0) (0,0) rfl rfl rfl (HN2.out.fin _ _ _ _ _ _ _).1 (HN2.out.fin _ _ _ _ _ _ _).2.1) rfl ?_
      exact⟨by rw[HR.out];rfl,(HN2.out.fin _ _ _ _ _ _ _).2.2⟩)
    ·have HR:=hid hR
     have HN2:=hid hN
     subst b1
     have k0:W.cell? ⟨w.heap.size,0,none⟩=some (.int .i64 0):=row_cellsX hN.h4 0;have k1:W.cell? ⟨w.heap.size,1,none⟩=some (.int .i64 0):=row_cellsX hN.h4 1;have k2:W.cell? ⟨w.heap.size,2,none⟩=some (.string ⟨#[]⟩):=row_cellsX hN.h4 2;have k3:W.cell? ⟨w.heap.size,3,none⟩=some (.int .i64 0):=row_cellsX hN.h4 3;have k4:W.cell? ⟨w.heap.size,4,none⟩=some (.int .u64 0):=row_cellsX hN.h4 4;have k5:W.cell? ⟨w.heap.size+1,0,none⟩=some (.int .i64 0):=row_cellsX hN.h6 0;have k6:W.cell? ⟨w.heap.size+1,1,none⟩=some (.int .i64 0):=row_cellsX hN.h6 1;have z4:=row_thawX hN.h4;have z6:=row_thawX hN.h6
     clear hR HW hN
     rcases ex with ex|⟨hk,cgk⟩
     all_goals (
      go_wp2_with ((with_reducible (apply Calls.mono;first|exact cgk _|exact cp _));rintro e w' ⟨rfl,rfl⟩)
      refine bodyPost_ret (nx_ret rfl _ _ w.heap.size (w.heap.size+1) _ _ _ _ _ _ _ _ (0,0) (0,0) rfl rfl rfl (HN2.out.fin _ _ _ _ _ _ _).1 (HN2.out.fin _ _ _ _ _ _ _).2.1) rfl ?_
      exact⟨by rw[HR.out];rfl,(HN2.out.fin _ _ _ _ _ _ _).2.2⟩))
theorem rText_end(s:ByteArray)(hs:s.size<=1000000)(a:Nat)(ha:a+1=s.size)(w:World) :
  Calls prog 28 #[.string s,.int .i64 a] w λe w'=>e=.returned (.tuple #[tv noTk 0,.int .i64 (a:Nat),.agg #[.int .i64 61,.int .i64 (a:Nat)]])/\Below w.heap.size w w':=by
 have cf:=rFault_c 61 a
 simp only[tv,noTk] at cf ⊢
 have hN:=Nx0.start w
 have a2:z5z.wrap ((a:Int)+1)=((a+1:Nat):Int):=by rw[z6z];omega
 have a3:wrap64 ((a:Int)+1)=((a+1:Nat):Int):=by unfold wrap64;omega
 have a4:¬ ((a+1:Nat):Int)<(s.size:Int):=by omega
 clear hs ha
 go_enter func28,ntmps28
 go_upto_region 1 with fail
 generalize z0z (z0z w _) _=W at *
 replace hN:=hN.go ((z4z _ W).alloc (z1z _) (.cells #[] 5))
 go_upto_region 2 with fail
 generalize z0z W _=W3 at *
 go_wp2_with fail
 refine wp_loop_rounds 2 ?_
 rw[rounds_succ]
 go_wp2_with (go_at_call 30;(with_reducible refine(cf _).mono ?_);rintro e W2 ⟨rfl,hb⟩;(replace hN:=hN.go hb);clear hb;(have k0:W2.cell? ⟨w.heap.size,0,none⟩=some (.int .i64 0):=row_cellsX hN.h4 0);(have k1:W2.cell? ⟨w.heap.size,1,none⟩=some (.int .i64 0):=row_cellsX hN.h4 1);(have k2:W2.cell? ⟨w.heap.size,2,none⟩=some (.string ⟨#[]⟩):=row_cellsX hN.h4 2);(have k3:W2.cell? ⟨w.heap.size,3,none⟩=some (.int .i64 0):=row_cellsX hN.h4 3);(have k4:W2.cell? ⟨w.heap.size,4,none⟩=some (.int .u64 0):=row_cellsX hN.h4 4);(have k5:W2.cell? ⟨w.heap.size+1,0,none⟩=some (.int .i64 0):=row_cellsX hN.h6 0);(have k6:W2.cell? ⟨w.heap.size+1,1,none⟩=some (.int .i64 0):=row_cellsX hN.h6 1);(have z4:=row_thawX hN.h4);(have z6:=row_thawX hN.h6);(have HN2:=hid hN);clear hN)
 refine bodyPost_ret (nx_ret rfl _ _ w.heap.size (w.heap.size+1) _ _ _ _ _ _ _ _ (0,0) (0,0) rfl rfl rfl (HN2.out.fin _ _ _ _ _ _ _).1 (HN2.out.fin _ _ _ _ _ _ _).2.1) rfl ?_
 exact⟨rfl,(HN2.out.fin _ _ _ _ _ _ _).2.2⟩
def restP(r:List UInt8):Pc:=orPc (nameP r) (orPc (doubleP r) (orPc (wholeP r) (orPc (quotedP r) (markP r))))
def nextR(r:List UInt8)(a:Nat):Value:=if r=[] then .tuple #[tv endTk (a:Nat),.int .i64 (a:Nat),.agg #[.int .i64 0,.int .i64 0]] else nxR (restP r) a
theorem piece_rest(r:List UInt8)(h:NoGap r):pieceP r=restP r:=by
 unfold pieceP restP
 cases r with
 | nil=>rfl
 | cons c r=>
  obtain⟨h1,h2⟩:=h c rfl
  exact orPc_none (gap_none c r h1 h2)
theorem nx_form(p:Pc)(a:Nat):∃t x to' c f,nxR p a=.tuple #[tv t x,.int .i64 to',.agg #[.int .i64 c,.int .i64 f]]:=by
 unfold nxR
 split
 ·exact⟨_,_,_,_,_,rfl⟩
 ·split
  ·exact⟨_,_,_,_,_,rfl⟩
  ·exact⟨_,_,_,_,_,rfl⟩
theorem not_name(c:UInt8)(r:List UInt8)(h:startB c=false):nameP (c::r)=noPc:=by
 unfold nameP
 refine if_pos ?_
 cases hd:digB c
 ·left
  exact runN_cons_f (by rw[name_start,h,hd];rfl)
 ·right;exact hd
theorem not_num(c:UInt8)(r:List UInt8)(h:digB c=false):doubleP (c::r)=noPc/\wholeP (c::r)=noPc:=by
 constructor
 ·unfold doubleP
  refine if_neg ?_
  intro e
  have:c=48:=by
   have:=congrArg List.head? e
   simpa [hexT] using this
  subst this
  revert h;decide
 ·unfold wholeP
  exact if_pos (runN_cons_f h)
theorem not_quote(c:UInt8)(r:List UInt8)(h:c≠34):quotedP (c::r)=noPc:=if_neg (λe=>h (by simpa using e))
theorem or_no(b:Pc):orPc noPc b=b:=rfl
theorem or_size{a b:Pc}(h:¬a.size=0):orPc a b=a:=if_neg h
def marks2:List (List UInt8):=[[61,61],[33,61],[60,61],[62,61],[60,60],[62,62],[47,47],[46,46]]
def marks1:List (List UInt8):=[[43],[45],[42],[47],[37],[38],[124],[94],[126],[60],[62],[61],[40],[41],[123],[125],[91],[93],[44],[59],[58]]
theorem find_len(r:List UInt8)(n:Nat)(L:List (List UInt8))(hL:∀m ∈ L,m.length=n):L.find? (λm=>r.take m.length==m)=if r.take n ∈ L then some (r.take n) else none:=by
 induction L with
 | nil=>rfl
 | cons m L ih=>
  have hm:=hL m (by simp)
  have ih':=ih (λm h=>hL m (by simp[h]))
  rw[List.find?_cons,hm]
  by_cases c:r.take n=m
  ·rw[c]
   simp
  ·have e:(r.take n==m)=false:=by rw[beq_eq_false_iff_ne];exact c
   rw[e,ih']
   simp[c]
theorem mark_form(r:List UInt8):markP r=if r.take 2 ∈ marks2 then okPc ⟨3,bytesOf (r.take 2),0,0⟩ 2 else if r.take 1 ∈ marks1 then okPc ⟨3,bytesOf (r.take 1),0,0⟩ 1 else noPc:=by
 have hm:marks=marks2++marks1:=rfl
 have l2:∀m ∈ marks2,m.length=2:=by decide
 have l1:∀m ∈ marks1,m.length=1:=by decide
 unfold markP
 rw[hm,List.find?_append,find_len r 2 marks2 l2,find_len r 1 marks1 l1]
 by_cases c:r.take 2 ∈ marks2
 ·rw[if_pos c,if_pos c]
  show okPc ⟨3,bytesOf (r.take 2),0,0⟩ (r.take 2).length=_
  rw[l2 _ c]
 ·rw[if_neg c,if_neg c]
  by_cases d:r.take 1 ∈ marks1
  ·rw[if_pos d,if_pos d]
   show okPc ⟨3,bytesOf (r.take 1),0,0⟩ (r.take 1).length=_
   rw[l1 _ d]
  ·rw[if_neg d,if_neg d]
   rfl
theorem mem_two(l:List UInt8)(h:l.length=2):l ∈ marks↔l ∈ marks2:=by
 have hm:marks=marks2++marks1:=rfl
 have l1:∀m ∈ marks1,m.length=1:=by decide
 rw[hm,z10z]
 constructor
 ·rintro(h1|h1)
  ·exact h1
  ·have:=l1 _ h1;omega
 ·exact .inl
theorem mem_one(l:List UInt8)(h:l.length=1):l ∈ marks↔l ∈ marks1:=by
 have hm:marks=marks2++marks1:=rfl
 have l2:∀m ∈ marks2,m.length=2:=by decide
 rw[hm,z10z]
 constructor
 ·rintro(h1|h1)
  ·have:=l2 _ h1;omega
  ·exact h1
 ·exact .inr
theorem rest_start(c:UInt8)(r:List UInt8)(h:startB c=true):restP (c::r)=nameP (c::r):=by
 unfold restP
 obtain⟨d1,d2⟩:=start_dig c h
 refine or_size ?_
 unfold nameP
 rw[if_neg]
 ·have:runN nameB (c::r)≠0:=by rw[runN_cons_t d2];omega
  split
  ·exact this
  ·exact this
 ·rintro(g|g)
  ·rw[runN_cons_t d2] at g;omega
  ·have:digB c=true:=g
   rw[d1] at this;cases this
theorem rest_digit(c:UInt8)(r:List UInt8)(h:digB c=true):restP (c::r)=orPc (doubleP (c::r)) (wholeP (c::r)):=by
 have hs:startB c=false:=by
  cases e:startB c
  ·rfl
  ·rw[(start_dig c e).1] at h;cases h
 have hw:¬ (wholeP (c::r)).size=0:=by
  have sz:(wholeP (c::r)).size=runN digB (c::r):=by
   unfold wholeP
   split
   ·rename_i g;rw[g];rfl
   ·split <;> rfl
  rw[sz,runN_cons_t h];omega
 unfold restP
 rw[not_name c r hs,or_no,or_size hw]
theorem rest_quote(r:List UInt8):restP (34::r)=quotedP (34::r):=by
 unfold restP
 rw[not_name 34 r (by decide),or_no,(not_num 34 r (by decide)).1,or_no,(not_num 34 r (by decide)).2,or_no]
 refine or_size ?_
 have e:quotedP (34::r)=qd (quoteGo (34::r).length r 1 []):=by unfold quotedP;rw[if_pos (show (34::r).head? = some 34 from rfl)];rfl
 rw[e]
 have:=quote_ge (34::r).length r 1 []
 rcases qd_cases (quoteGo (34::r).length r 1 []) with g|⟨_,g⟩
 ·rw[g];omega
 ·rw[g];exact Nat.one_ne_zero
theorem rest_mark(c:UInt8)(r:List UInt8)(h1:startB c=false)(h2:digB c=false)(h3:c≠34):restP (c::r)=markP (c::r):=by
 unfold restP
 rw[not_name c r h1,or_no,(not_num c r h2).1,or_no,(not_num c r h2).2,or_no,not_quote c r h3,or_no]
theorem rNext_c(s:ByteArray)(hs:s.size<=1000000)(a:Nat)(ha:a<=s.size)(cn:∀h:a<s.size,digB s[a]=true->∀w,Calls prog 27 #[.string s,.int .i64 a] w λe w'=>e=.returned (nxR (orPc (doubleP (s.data.toList.drop a)) (wholeP (s.data.toList.drop a))) a)/\Below w.heap.size w w')
  (cq:∀h:a<s.size,s[a].toNat=34->∀w,Calls prog 28 #[.string s,.int .i64 a] w λe w'=>e=.returned (nxR (quotedP (s.data.toList.drop a)) a)/\Below w.heap.size w w') (w:World) :
  Calls prog 16 #[.string s,.int .i64 a] w λe w'=>e=.returned (nextR (s.data.toList.drop a) a)/\Below w.heap.size w w':=by
 have hN:=Nx0.start w
 by_cases ea:a=s.size
 ·have e1:(a:Int)=(s.size:Int):=by omega
  have er:nextR (s.data.toList.drop a) a=.tuple #[tv endTk (a:Nat),.int .i64 (a:Nat),.agg #[.int .i64 0,.int .i64 0]]:=if_pos (z12z (by rw[size_list];omega))
  rw[er]
  simp only[tv,endTk]
  clear cn cq er hs ha
  have e2:((a:Int)==(s.size:Int))=true:=by simp[e1]
  clear e1 ea
  go_enter func16,ntmps16
  go_upto_region 1 with fail
  generalize z0z (z0z w _) _=W at *
  have HN2:=hid hN
  have k0:W.cell? ⟨w.heap.size,0,none⟩=some (.int .i64 0):=row_cellsX hN.h4 0;have k1:W.cell? ⟨w.heap.size,1,none⟩=some (.int .i64 0):=row_cellsX hN.h4 1;have k2:W.cell? ⟨w.heap.size,2,none⟩=some (.string ⟨#[]⟩):=row_cellsX hN.h4 2;have k3:W.cell? ⟨w.heap.size,3,none⟩=some (.int .i64 0):=row_cellsX hN.h4 3;have k4:W.cell? ⟨w.heap.size,4,none⟩=some (.int .u64 0):=row_cellsX hN.h4 4;have k5:W.cell? ⟨w.heap.size+1,0,none⟩=some (.int .i64 0):=row_cellsX hN.h6 0;have k6:W.cell? ⟨w.heap.size+1,1,none⟩=some (.int .i64 0):=row_cellsX hN.h6 1;have z4:=row_thawX hN.h4;have z6:=row_thawX hN.h6
  clear hN
  go_wp2
  refine bodyPost_ret (nx_ret rfl _ _ w.heap.size (w.heap.size+1) _ _ _ _ _ _ _ _ (0,0) (0,0) rfl rfl rfl (HN2.out.fin _ _ _ _ _ _ _).1 (HN2.out.fin _ _ _ _ _ _ _).2.1) rfl ?_
  exact⟨rfl,(HN2.out.fin _ _ _ _ _ _ _).2.2⟩
 ·have hlt:a<s.size:=by omega
  have hd:=drop_cons s a hlt
  have a0:(0:Int)<=(a:Int):=by omega
  have a1:(a:Int)<(s.size:Int):=by omega
  have a2:((a:Int)==(s.size:Int))=false:=by simp;omega
  have er:nextR (s.data.toList.drop a) a=nxR (restP (s.data.toList.drop a)) a:=if_neg (by rw[hd];simp)
  rw[er]
  have cs:=rStarts_c s[a]
  have cd:=rDigit_c s[a]
  by_cases b1:startB s[a]=true
  ·have hr:=rest_start s[a] (s.data.toList.drop (a+1)) b1
   rw[<- hd] at hr
   rw[hr]
   have cm:=λw=>rName_c s hs a hlt b1 w
   obtain⟨t,x,y,c,f,hf⟩:=nx_form (nameP (s.data.toList.drop a)) a
   rw[hf] at cm ⊢
   rw[b1] at cs
   simp only[tv] at cm ⊢
   clear cn cq er hs ha hd hr hf ea cd b1
   go_enter func16,ntmps16
   go_upto_region 1 with fail
   generalize z0z (z0z w _) _=W at *
   go_wp2_with (first|(go_at_call 24;(with_reducible refine(cs _).mono ?_);rintro e w' ⟨rfl,rfl⟩)|(go_at_call 25;(with_reducible refine(cm _).mono ?_);rintro e W2 ⟨rfl,hb⟩;(replace hN:=hN.go hb);clear hb;(have k0:W2.cell? ⟨w.heap.size,0,none⟩=some (.int .i64 0):=row_cellsX hN.h4 0);(have k1:W2.cell? ⟨w.heap.size,1,none⟩=some (.int .i64 0):=row_cellsX hN.h4 1);(have k2:W2.cell? ⟨w.heap.size,2,none⟩=some (.string ⟨#[]⟩):=row_cellsX hN.h4 2);(have k3:W2.cell? ⟨w.heap.size,3,none⟩=some (.int .i64 0):=row_cellsX hN.h4 3);(have k4:W2.cell? ⟨w.heap.size,4,none⟩=some (.int .u64 0):=row_cellsX hN.h4 4);(have k5:W2.cell? ⟨w.heap.size+1,0,none⟩=some (.int .i64 0):=row_cellsX hN.h6 0);(have k6:W2.cell? ⟨w.heap.size+1,1,none⟩=some (.int .i64 0):=row_cellsX hN.h6 1);(have z4:=row_thawX hN.h4);(have z6:=row_thawX hN.h6);(have HN2:=hid hN);clear hN))
   refine bodyPost_ret (nx_ret rfl _ _ w.heap.size (w.heap.size+1) _ _ _ _ _ _ _ _ (0,0) (0,0) rfl rfl rfl (HN2.out.fin _ _ _ _ _ _ _).1 (HN2.out.fin _ _ _ _ _ _ _).2.1) rfl ?_
   exact⟨rfl,(HN2.out.fin _ _ _ _ _ _ _).2.2⟩
  ·have b1':startB s[a]=false:=by simpa using b1
   rw[b1'] at cs
   by_cases b2:digB s[a]=true
   ·have hr:=rest_digit s[a] (s.data.toList.drop (a+1)) b2
    rw[<- hd] at hr
    rw[hr]
    have cm:=cn hlt b2
    obtain⟨t,x,y,c,f,hf⟩:=nx_form (orPc (doubleP (s.data.toList.drop a)) (wholeP (s.data.toList.drop a))) a
    rw[hf] at cm ⊢
    rw[b2] at cd
    simp only[tv] at cm ⊢
    clear cn cq er hs ha hd hr hf ea b1 b1' b2
    go_enter func16,ntmps16
    go_upto_region 1 with fail
    generalize z0z (z0z w _) _=W at *
    go_wp2_with (first|((with_reducible (apply Calls.mono;first|exact cs _|exact cd _));rintro e w' ⟨rfl,rfl⟩)|(go_at_call 27;(with_reducible refine(cm _).mono ?_);rintro e W2 ⟨rfl,hb⟩;(replace hN:=hN.go hb);clear hb;(have k0:W2.cell? ⟨w.heap.size,0,none⟩=some (.int .i64 0):=row_cellsX hN.h4 0);(have k1:W2.cell? ⟨w.heap.size,1,none⟩=some (.int .i64 0):=row_cellsX hN.h4 1);(have k2:W2.cell? ⟨w.heap.size,2,none⟩=some (.string ⟨#[]⟩):=row_cellsX hN.h4 2);(have k3:W2.cell? ⟨w.heap.size,3,none⟩=some (.int .i64 0):=row_cellsX hN.h4 3);(have k4:W2.cell? ⟨w.heap.size,4,none⟩=some (.int .u64 0):=row_cellsX hN.h4 4);(have k5:W2.cell? ⟨w.heap.size+1,0,none⟩=some (.int .i64 0):=row_cellsX hN.h6 0);(have k6:W2.cell? ⟨w.heap.size+1,1,none⟩=some (.int .i64 0):=row_cellsX hN.h6 1);(have z4:=row_thawX hN.h4);(have z6:=row_thawX hN.h6);(have HN2:=hid hN);clear hN))
    refine bodyPost_ret (nx_ret rfl _ _ w.heap.size (w.heap.size+1) _ _ _ _ _ _ _ _ (0,0) (0,0) rfl rfl rfl (HN2.out.fin _ _ _ _ _ _ _).1 (HN2.out.fin _ _ _ _ _ _ _).2.1) rfl ?_
    exact⟨rfl,(HN2.out.fin _ _ _ _ _ _ _).2.2⟩
   ·have b2':digB s[a]=false:=by simpa using b2
    rw[b2'] at cd
    by_cases b3:s[a].toNat=34
    ·have hc:s[a]=34:=u8_is b3
     have hr:=rest_quote (s.data.toList.drop (a+1))
     rw[<- hc,<- hd] at hr
     rw[hr]
     have cm:=cq hlt b3
     obtain⟨t,x,y,c,f,hf⟩:=nx_form (quotedP (s.data.toList.drop a)) a
     rw[hf] at cm ⊢
     simp only[tv] at cm ⊢
     have q3:((s[a].toNat:Int)==34)=true:=by simp;omega
     clear cn cq er hs ha hd hr hf ea b1 b1' b2 b2' hc b3
     go_enter func16,ntmps16
     go_upto_region 1 with fail
     generalize z0z (z0z w _) _=W at *
     go_wp2_with (first|((with_reducible (apply Calls.mono;first|exact cs _|exact cd _));rintro e w' ⟨rfl,rfl⟩)|(go_at_call 28;(with_reducible refine(cm _).mono ?_);rintro e W2 ⟨rfl,hb⟩;(replace hN:=hN.go hb);clear hb;(have k0:W2.cell? ⟨w.heap.size,0,none⟩=some (.int .i64 0):=row_cellsX hN.h4 0);(have k1:W2.cell? ⟨w.heap.size,1,none⟩=some (.int .i64 0):=row_cellsX hN.h4 1);(have k2:W2.cell? ⟨w.heap.size,2,none⟩=some (.string ⟨#[]⟩):=row_cellsX hN.h4 2);(have k3:W2.cell? ⟨w.heap.size,3,none⟩=some (.int .i64 0):=row_cellsX hN.h4 3);(have k4:W2.cell? ⟨w.heap.size,4,none⟩=some (.int .u64 0):=row_cellsX hN.h4 4);(have k5:W2.cell? ⟨w.heap.size+1,0,none⟩=some (.int .i64 0):=row_cellsX hN.h6 0);(have k6:W2.cell? ⟨w.heap.size+1,1,none⟩=some (.int .i64 0):=row_cellsX hN.h6 1);(have z4:=row_thawX hN.h4);(have z6:=row_thawX hN.h6);(have HN2:=hid hN);clear hN))
     refine bodyPost_ret (nx_ret rfl _ _ w.heap.size (w.heap.size+1) _ _ _ _ _ _ _ _ (0,0) (0,0) rfl rfl rfl (HN2.out.fin _ _ _ _ _ _ _).1 (HN2.out.fin _ _ _ _ _ _ _).2.1) rfl ?_
     exact⟨rfl,(HN2.out.fin _ _ _ _ _ _ _).2.2⟩
    ·have hr:=rest_mark s[a] (s.data.toList.drop (a+1)) b1' b2' (λe=>b3 (by rw[e];rfl))
     rw[<- hd,mark_form] at hr
     rw[hr]
     have q3:((s[a].toNat:Int)==34)=false:=by simp;omega
     obtain⟨S1,hS1⟩:∃S1,s.extract a (a+1)=S1:=⟨_,rfl⟩
     obtain⟨S2,hS2⟩:∃S2,s.extract a (a+2)=S2:=⟨_,rfl⟩
     have t1:S1.data.toList=(s.data.toList.drop a).take 1:=by rw[<- hS1];exact ext_take s a 1
     have t2:S2.data.toList=(s.data.toList.drop a).take 2:=by rw[<- hS2];exact ext_take s a 2
     have z1:S1.data.toList.length=1:=by rw[t1,z9z,z7z,size_list];omega
     have z2:a+2<=s.size->S2.data.toList.length=2:=λh=>by rw[t2,z9z,z7z,size_list];omega
     have y2:¬a+2<=s.size->(s.data.toList.drop a).take 2 ∉ marks2:=by
      intro h hm
      have:((s.data.toList.drop a).take 2).length=2:=(show ∀m ∈ marks2,m.length=2 by decide) _ hm
      rw[z9z,z7z,size_list] at this
      omega
     have cm1:=λw=>rMark_c S1 w
     have cm2:=λw=>rMark_c S2 w
     have cf:=rFault_c 60 a
     simp only[tv,noTk] at cf
     have w1:z5z.wrap ((a:Int)+1)=((a+1:Nat):Int):=by rw[z6z];omega
     have w2:wrap64 ((a:Int)+1)=((a+1:Nat):Int):=by unfold wrap64;omega
     have w3:z5z.wrap ((a:Int)+2)=((a+2:Nat):Int):=by rw[z6z];omega
     have w4:wrap64 ((a:Int)+2)=((a+2:Nat):Int):=by unfold wrap64;omega
     have v1:(a:Int)<=((a+1:Nat):Int):=by omega
     have v2:(a:Int)<=((a+2:Nat):Int):=by omega
     have v3:((a+1:Nat):Int)<=(s.size:Int):=by omega
     have two:(((a+2:Nat):Int)<=(s.size:Int)/\(∀w,Calls prog 29 #[.string S2] w λe w'=>e=.returned (.bool true)/\w'=w)/\(s.data.toList.drop a).take 2 ∈ marks2)\/((((a+2:Nat):Int)<=(s.size:Int)/\(∀w,Calls prog 29 #[.string S2] w λe w'=>e=.returned (.bool false)/\w'=w))\/¬ ((a+2:Nat):Int)<=(s.size:Int))/\(s.data.toList.drop a).take 2 ∉ marks2:=by
      by_cases h:a+2<=s.size
      ·have e:=mem_two S2.data.toList (z2 h)
       by_cases g:S2.data.toList ∈ marks2
       ·left
        refine⟨by omega,λw=>?_,by rw[<- t2];exact g⟩
        have:=cm2 w
        rw[decide_eq_true (e.2 g)] at this
        exact this
       ·right
        refine⟨.inl ⟨by omega,λw=>?_⟩,by rw[<- t2];exact g⟩
        have:=cm2 w
        rw[decide_eq_false (λk=>g (e.1 k))] at this
        exact this
      ·right
       exact⟨.inr (by omega),y2 h⟩
     have one:((∀w,Calls prog 29 #[.string S1] w λe w'=>e=.returned (.bool true)/\w'=w)/\(s.data.toList.drop a).take 1 ∈ marks1)\/((∀w,Calls prog 29 #[.string S1] w λe w'=>e=.returned (.bool false)/\w'=w)/\(s.data.toList.drop a).take 1 ∉ marks1):=by
      have e:=mem_one S1.data.toList z1
      by_cases g:S1.data.toList ∈ marks1
      ·left
       refine⟨λw=>?_,by rw[<- t1];exact g⟩
       have:=cm1 w
       rw[decide_eq_true (e.2 g)] at this
       exact this
      ·right
       refine⟨λw=>?_,by rw[<- t1];exact g⟩
       have:=cm1 w
       rw[decide_eq_false (λk=>g (e.1 k))] at this
       exact this
     have eb1:bytesOf ((s.data.toList.drop a).take 1)=S1:=by rw[<- t1,bytes_self]
     have eb2:bytesOf ((s.data.toList.drop a).take 2)=S2:=by rw[<- t2,bytes_self]
     rw[eb1,eb2]
     clear cn cq er hs ha hd hr ea b1 b1' b2 b2' b3 t1 t2 z1 z2 y2 cm1 cm2 eb1 eb2
     have v4:a+1<=s.size:=by omega
     obtain⟨E1,hE1⟩:∃E1,a+1=E1:=⟨_,rfl⟩
     obtain⟨E2,hE2⟩:∃E2,a+2=E2:=⟨_,rfl⟩
     rw[hE1] at hS1 w1 w2 v1 v3 v4
     rw[hE2] at hS2 w3 w4 v2 two
     have HE1:=hid hE1
     have HE2:=hid hE2
     clear hE1 hE2
     rcases two with⟨u1,c2,u2⟩|⟨u1,u2⟩
     ·have u4:E2<=s.size:=by omega
      rw[if_pos u2,nx_ok _ 2 a (by decide),HE2.out]
      simp only[tv]
      clear u2 one
      go_enter func16,ntmps16
      go_upto_region 1 with fail
      generalize z0z (z0z w _) _=W at *
      have HN2:=hid hN
      have k0:W.cell? ⟨w.heap.size,0,none⟩=some (.int .i64 0):=row_cellsX hN.h4 0;have k1:W.cell? ⟨w.heap.size,1,none⟩=some (.int .i64 0):=row_cellsX hN.h4 1;have k2:W.cell? ⟨w.heap.size,2,none⟩=some (.string ⟨#[]⟩):=row_cellsX hN.h4 2;have k3:W.cell? ⟨w.heap.size,3,none⟩=some (.int .i64 0):=row_cellsX hN.h4 3;have k4:W.cell? ⟨w.heap.size,4,none⟩=some (.int .u64 0):=row_cellsX hN.h4 4;have k5:W.cell? ⟨w.heap.size+1,0,none⟩=some (.int .i64 0):=row_cellsX hN.h6 0;have k6:W.cell? ⟨w.heap.size+1,1,none⟩=some (.int .i64 0):=row_cellsX hN.h6 1;have z4:=row_thawX hN.h4;have z6:=row_thawX hN.h6
      clear hN
      go_wp2_with ((with_reducible (apply Calls.mono;first|exact cs _|exact cd _));rintro e w' ⟨rfl,rfl⟩)
      refine wp_loop_rounds 3 ?_
      rw[rounds_succ]
      go_wp2_with (go_at_call 29;(with_reducible refine(c2 _).mono ?_);rintro e w' ⟨rfl,rfl⟩)
      refine bodyPost_ret (nx_ret rfl _ _ w.heap.size (w.heap.size+1) _ _ _ _ _ _ _ _ (0,0) (0,0) rfl rfl rfl (HN2.out.fin _ _ _ _ _ _ _).1 (HN2.out.fin _ _ _ _ _ _ _).2.1) rfl ?_
      exact⟨rfl,(HN2.out.fin _ _ _ _ _ _ _).2.2⟩
     ·rw[if_neg u2]
      clear u2
      rcases one with⟨c1,u3⟩|⟨c1,u3⟩
      ·rw[if_pos u3,nx_ok _ 1 a (by decide),HE1.out]
       simp only[tv]
       clear u3
       rcases u1 with⟨u1,c2⟩|u1
       ·have u4:E2<=s.size:=by omega
        go_enter func16,ntmps16
        go_upto_region 1 with fail
        generalize z0z (z0z w _) _=W at *
        have HN2:=hid hN
        have k0:W.cell? ⟨w.heap.size,0,none⟩=some (.int .i64 0):=row_cellsX hN.h4 0;have k1:W.cell? ⟨w.heap.size,1,none⟩=some (.int .i64 0):=row_cellsX hN.h4 1;have k2:W.cell? ⟨w.heap.size,2,none⟩=some (.string ⟨#[]⟩):=row_cellsX hN.h4 2;have k3:W.cell? ⟨w.heap.size,3,none⟩=some (.int .i64 0):=row_cellsX hN.h4 3;have k4:W.cell? ⟨w.heap.size,4,none⟩=some (.int .u64 0):=row_cellsX hN.h4 4;have k5:W.cell? ⟨w.heap.size+1,0,none⟩=some (.int .i64 0):=row_cellsX hN.h6 0;have k6:W.cell? ⟨w.heap.size+1,1,none⟩=some (.int .i64 0):=row_cellsX hN.h6 1;have z4:=row_thawX hN.h4;have z6:=row_thawX hN.h6
        clear hN
        go_wp2_with ((with_reducible (apply Calls.mono;first|exact cs _|exact cd _));rintro e w' ⟨rfl,rfl⟩)
        refine wp_loop_rounds 3 ?_
        rw[rounds_succ]
        go_wp2_with (go_at_call 29;(with_reducible refine(c2 _).mono ?_);rintro e w' ⟨rfl,rfl⟩)
        rw[rounds_succ]
        go_wp2_with (go_at_call 29;(with_reducible refine(c1 _).mono ?_);rintro e w' ⟨rfl,rfl⟩)
        refine bodyPost_ret (nx_ret rfl _ _ w.heap.size (w.heap.size+1) _ _ _ _ _ _ _ _ (0,0) (0,0) rfl rfl rfl (HN2.out.fin _ _ _ _ _ _ _).1 (HN2.out.fin _ _ _ _ _ _ _).2.1) rfl ?_
        exact⟨rfl,(HN2.out.fin _ _ _ _ _ _ _).2.2⟩
       ·have u4:¬E2<=s.size:=by omega
        go_enter func16,ntmps16
        go_upto_region 1 with fail
        generalize z0z (z0z w _) _=W at *
        have HN2:=hid hN
        have k0:W.cell? ⟨w.heap.size,0,none⟩=some (.int .i64 0):=row_cellsX hN.h4 0;have k1:W.cell? ⟨w.heap.size,1,none⟩=some (.int .i64 0):=row_cellsX hN.h4 1;have k2:W.cell? ⟨w.heap.size,2,none⟩=some (.string ⟨#[]⟩):=row_cellsX hN.h4 2;have k3:W.cell? ⟨w.heap.size,3,none⟩=some (.int .i64 0):=row_cellsX hN.h4 3;have k4:W.cell? ⟨w.heap.size,4,none⟩=some (.int .u64 0):=row_cellsX hN.h4 4;have k5:W.cell? ⟨w.heap.size+1,0,none⟩=some (.int .i64 0):=row_cellsX hN.h6 0;have k6:W.cell? ⟨w.heap.size+1,1,none⟩=some (.int .i64 0):=row_cellsX hN.h6 1;have z4:=row_thawX hN.h4;have z6:=row_thawX hN.h6
        clear hN
        go_wp2_with ((with_reducible (apply Calls.mono;first|exact cs _|exact cd _));rintro e w' ⟨rfl,rfl⟩)
        refine wp_loop_rounds 3 ?_
        rw[rounds_succ]
        go_wp2_with (go_at_call 29;(with_reducible refine(c2 _).mono ?_);rintro e w' ⟨rfl,rfl⟩)
        rw[rounds_succ]
        go_wp2_with (go_at_call 29;(with_reducible refine(c1 _).mono ?_);rintro e w' ⟨rfl,rfl⟩)
        refine bodyPost_ret (nx_ret rfl _ _ w.heap.size (w.heap.size+1) _ _ _ _ _ _ _ _ (0,0) (0,0) rfl rfl rfl (HN2.out.fin _ _ _ _ _ _ _).1 (HN2.out.fin _ _ _ _ _ _ _).2.1) rfl ?_
        exact⟨rfl,(HN2.out.fin _ _ _ _ _ _ _).2.2⟩
      ·rw[if_neg u3]
       have en:nxR noPc a=.tuple #[tv noTk 0,.int .i64 (a:Nat),.agg #[.int .i64 60,.int .i64 (a:Nat)]]:=if_pos rfl
       rw[en]
       simp only[tv,noTk]
       clear u3 en
       rcases u1 with⟨u1,c2⟩|u1
       ·have u4:E2<=s.size:=by omega
        go_enter func16,ntmps16
        go_upto_region 1 with fail
        generalize z0z (z0z w _) _=W at *
        go_wp2_with ((with_reducible (apply Calls.mono;first|exact cs _|exact cd _));rintro e w' ⟨rfl,rfl⟩)
        refine wp_loop_rounds 3 ?_
        rw[rounds_succ]
        go_wp2_with (go_at_call 29;(with_reducible refine(c2 _).mono ?_);rintro e w' ⟨rfl,rfl⟩)
        rw[rounds_succ]
        go_wp2_with (go_at_call 29;(with_reducible refine(c1 _).mono ?_);rintro e w' ⟨rfl,rfl⟩)
        rw[rounds_succ]
        go_wp2_with (go_at_call 30;(with_reducible refine(cf _).mono ?_);rintro e W2 ⟨rfl,hb⟩;(replace hN:=hN.go hb);clear hb;(have k0:W2.cell? ⟨w.heap.size,0,none⟩=some (.int .i64 0):=row_cellsX hN.h4 0);(have k1:W2.cell? ⟨w.heap.size,1,none⟩=some (.int .i64 0):=row_cellsX hN.h4 1);(have k2:W2.cell? ⟨w.heap.size,2,none⟩=some (.string ⟨#[]⟩):=row_cellsX hN.h4 2);(have k3:W2.cell? ⟨w.heap.size,3,none⟩=some (.int .i64 0):=row_cellsX hN.h4 3);(have k4:W2.cell? ⟨w.heap.size,4,none⟩=some (.int .u64 0):=row_cellsX hN.h4 4);(have k5:W2.cell? ⟨w.heap.size+1,0,none⟩=some (.int .i64 0):=row_cellsX hN.h6 0);(have k6:W2.cell? ⟨w.heap.size+1,1,none⟩=some (.int .i64 0):=row_cellsX hN.h6 1);(have z4:=row_thawX hN.h4);(have z6:=row_thawX hN.h6);(have HN2:=hid hN);clear hN)
        refine bodyPost_ret (nx_ret rfl _ _ w.heap.size (w.heap.size+1) _ _ _ _ _ _ _ _ (0,0) (0,0) rfl rfl rfl (HN2.out.fin _ _ _ _ _ _ _).1 (HN2.out.fin _ _ _ _ _ _ _).2.1) rfl ?_
        exact⟨rfl,(HN2.out.fin _ _ _ _ _ _ _).2.2⟩
       ·have u4:¬E2<=s.size:=by omega
        go_enter func16,ntmps16
        go_upto_region 1 with fail
        generalize z0z (z0z w _) _=W at *
        go_wp2_with ((with_reducible (apply Calls.mono;first|exact cs _|exact cd _));rintro e w' ⟨rfl,rfl⟩)
        refine wp_loop_rounds 3 ?_
        rw[rounds_succ]
        go_wp2_with (go_at_call 29;(with_reducible refine(c2 _).mono ?_);rintro e w' ⟨rfl,rfl⟩)
        rw[rounds_succ]
        go_wp2_with (go_at_call 29;(with_reducible refine(c1 _).mono ?_);rintro e w' ⟨rfl,rfl⟩)
        rw[rounds_succ]
        go_wp2_with (go_at_call 30;(with_reducible refine(cf _).mono ?_);rintro e W2 ⟨rfl,hb⟩;(replace hN:=hN.go hb);clear hb;(have k0:W2.cell? ⟨w.heap.size,0,none⟩=some (.int .i64 0):=row_cellsX hN.h4 0);(have k1:W2.cell? ⟨w.heap.size,1,none⟩=some (.int .i64 0):=row_cellsX hN.h4 1);(have k2:W2.cell? ⟨w.heap.size,2,none⟩=some (.string ⟨#[]⟩):=row_cellsX hN.h4 2);(have k3:W2.cell? ⟨w.heap.size,3,none⟩=some (.int .i64 0):=row_cellsX hN.h4 3);(have k4:W2.cell? ⟨w.heap.size,4,none⟩=some (.int .u64 0):=row_cellsX hN.h4 4);(have k5:W2.cell? ⟨w.heap.size+1,0,none⟩=some (.int .i64 0):=row_cellsX hN.h6 0);(have k6:W2.cell? ⟨w.heap.size+1,1,none⟩=some (.int .i64 0):=row_cellsX hN.h6 1);(have z4:=row_thawX hN.h4);(have z6:=row_thawX hN.h6);(have HN2:=hid hN);clear hN)
        refine bodyPost_ret (nx_ret rfl _ _ w.heap.size (w.heap.size+1) _ _ _ _ _ _ _ _ (0,0) (0,0) rfl rfl rfl (HN2.out.fin _ _ _ _ _ _ _).1 (HN2.out.fin _ _ _ _ _ _ _).2.1) rfl ?_
        exact⟨rfl,(HN2.out.fin _ _ _ _ _ _ _).2.2⟩
def No7(p:Pc):Prop:=p.t.kind≠7
theorem no7_or{a b:Pc}(ha:No7 a)(hb:No7 b):No7 (orPc a b):=by
 unfold orPc
 split
 ·exact hb
 ·exact ha
theorem no7_quote:∀ (f:Nat) (r:List UInt8) (k:Nat) (acc:List UInt8),No7 (quoteGo f r k acc)
 | 0,r,k,acc=>by unfold quoteGo;show (0:Int)≠7;decide
 | f+1,[],k,acc=>by rw[quote_end];show (0:Int)≠7;decide
 | f+1,c::q,k,acc=>by
  by_cases c1:c=34
  ·rw[quote_stop (f+1) k c q acc (by omega) c1]
   show (6:Int)≠7;decide
  ·by_cases c2:(speltP (c::q)).2=0
   ·rw[quote_bad (f+1) k c q acc (by omega) c1 c2]
    show (0:Int)≠7;decide
   ·rw[quote_on f k c q acc c1 c2]
    exact no7_quote f _ _ _
theorem rest_no7(r:List UInt8):No7 (restP r):=by
 have z:∀n c,No7 (badPc n c):=λn c=>show (0:Int)≠7 by decide
 have zn:No7 noPc:=show (0:Int)≠7 by decide
 unfold restP
 refine no7_or ?_ (no7_or ?_ (no7_or ?_ (no7_or ?_ ?_)))
 ·unfold nameP
  split
  ·exact zn
  ·split
   ·exact z _ _
   ·show (namedT _).kind≠7
    unfold namedT
    split
    ·show (5:Int)≠7;decide
    ·split
     ·show (5:Int)≠7;decide
     ·split
      ·show (2:Int)≠7;decide
      ·show (1:Int)≠7;decide
 ·unfold doubleP
  split
  ·split
   ·show (5:Int)≠7;decide
   ·exact z _ _
  ·exact zn
 ·unfold wholeP
  split
  ·exact zn
  ·split
   ·show (4:Int)≠7;decide
   ·exact z _ _
 ·unfold quotedP
  split
  ·rcases qd_cases (quoteGo r.length (r.drop 1) 1 []) with g|⟨_,g⟩
   ·rw[g];exact no7_quote _ _ _ _
   ·rw[g];exact z _ _
  ·exact zn
 ·unfold markP
  split
  ·show (3:Int)≠7;decide
  ·exact zn
def NextF(l:List UInt8)(k:Nat)(t:Tk)(x y c f:Int):Prop:=
 (c≠0/\T (l.drop k) k=[⟨noTk,0,c,f⟩])\/(c=0/\f=0/\t.kind=7/\T (l.drop k) k=[⟨t,x,0,0⟩])\/(c=0/\f=0/\t.kind≠7/\∃m:Nat,y=(m:Int)/\k<m/\m<=l.length/\T (l.drop k) k=⟨t,x,0,0⟩::T (l.drop m) m)
theorem next_form(l:List UInt8)(k:Nat)(hk:k<=l.length)(h:NoGap (l.drop k)):∃t x y c f,nextR (l.drop k) k=.tuple #[tv t x,.int .i64 y,.agg #[.int .i64 c,.int .i64 f]]/\NextF l k t x y c f:=by
 unfold nextR
 by_cases e:l.drop k=[]
 ·rw[if_pos e]
  refine⟨_,_,_,_,_,rfl,.inr (.inl ⟨rfl,rfl,rfl,?_⟩)⟩
  rw[e,T_nil]
 ·rw[if_neg e]
  have hp:=piece_rest _ h
  have hst:=T_step (r:=l.drop k) (a:=k) e
  rw[hp] at hst
  have hle:=piece_le (l.drop k)
  rw[hp,z7z] at hle
  unfold nxR
  by_cases c1:(restP (l.drop k)).size=0
  ·rw[if_pos c1]
   rw[if_pos c1] at hst
   exact⟨_,_,_,_,_,rfl,.inl ⟨by decide,hst⟩⟩
  ·rw[if_neg c1]
   rw[if_neg c1] at hst
   by_cases c2:(restP (l.drop k)).code=0
   ·rw[if_neg (λh=>h c2)]
    rw[if_neg (λh=>h c2)] at hst
    have k0:(restP (l.drop k)).t.kind≠0:=rest_tok _ c1 c2
    rw[if_pos k0] at hst
    refine⟨_,_,_,_,_,rfl,.inr (.inr ⟨rfl,rfl,rest_no7 _,k+(restP (l.drop k)).size,rfl,by omega,by omega,?_⟩)⟩
    rw[hst,List.drop_drop]
   ·rw[if_pos c2]
    rw[if_pos c2] at hst
    exact⟨_,_,_,_,_,rfl,.inl ⟨c2,hst⟩⟩
theorem all_ret2{fn:Func}{p q:Tmp}(h:fn.results = #[.tmp p,.cell q 25])(tmps:Array Value)(w:World)(b3:Nat)(v c a:Value)(fr':Nat × Nat)(hp:tmps.getD p undef=v)(hq:tmps.getD q undef=.pointer (some ⟨b3,0,none⟩))(hg3:w.heap[b3]? = some (.cells #[c,a] 25 fr')):(results fn tmps).run prog w=.ok (.tuple #[v,.agg #[c,a]]) w:=by
 obtain⟨d,hu,hd⟩:=ftT
 have hl:=run_loadVar_row (P:=prog) w b3 25 25 #[c,a] fr' d hg3 hu (by cases d <;> first|rfl|exact hd) (by rw[ftSz];rfl)
 have hp':tmps[p]?.getD undef=v:=by simpa using hp
 have hq':tmps[q]?.getD undef=.pointer (some ⟨b3,0,none⟩):=by simpa using hq
 simp[results,h,hp',hq',asAddr,hl]
theorem find_last'(ts:List Yd)(z:Yd)(h:∀y ∈ ts,y.c=0)(hz:z.c≠0):(ts++[z]).find? (λy=>y.c != 0)=some z:=by
 rw[List.find?_append]
 have h1:ts.find? (λy=>y.c != 0)=none:=by
  rw[List.find?_eq_none]
  intro y hy
  simp[h y hy]
 rw[h1]
 have h2:(z.c != 0)=true:=by simp[hz]
 simp[h2]
theorem rows_one(ts:List Yd)(t:Tk)(x:Int):rowsY (ts++[⟨t,x,0,0⟩])=rowsY ts++[.int .i64 t.kind,.int .i64 x,.string t.text,.int .i64 t.int,.int .u64 t.bits]:=by
 unfold rowsY
 rw[List.flatMap_append]
 rfl
structure RaI (w W:World):Prop where
 bel:Below w.heap.size w W
 h3:W.heap[w.heap.size]? = some (.cells #[.int .i64 0,.int .i64 0] 25 (0,0))
theorem RaI.go{w W W':World}(h:RaI w W)(hb:Below W.heap.size W W'):RaI w W':=⟨h.bel.trans (hb.mono h.bel.size),row_keepX h.h3 hb⟩
theorem rAll_core(s:ByteArray)(hs:s.size<=65536)(cb:∀ (a:Nat),a<=s.size->∀w,Calls prog 15 #[.string s,.int .i64 a] w λe w'=>w'=w/\∃k:Nat,e=.returned (.int .i64 k)/\a<=k/\k<=s.size/\T (s.data.toList.drop a) a=T (s.data.toList.drop k) k/\NoGap (s.data.toList.drop k))
  (cx:∀ (k:Nat),k<=s.size->NoGap (s.data.toList.drop k)->∀w,Calls prog 16 #[.string s,.int .i64 k] w λe w'=>(∃t x y c f,e=.returned (.tuple #[.agg #[.int .i64 t.kind,.int .i64 x,.string t.text,.int .i64 t.int,.int .u64 t.bits],.int .i64 y,.agg #[.int .i64 c,.int .i64 f]])/\NextF s.data.toList k t x y c f)/\Below w.heap.size w w') (w:World) :
  Calls prog 8 #[.string s] w λe w'=>Below w.heap.size w w'/\AllR (T s.data.toList 0) w.heap.size e w':=by
 have z0:¬ (s.size:Int)>65536:=by omega
 have hI:RaI w (w.alloc (.cells #[.int .i64 0,.int .i64 0] 25)):=⟨(z4z _ w).alloc (z1z _) _,z8z w _⟩
 have HS:=hid hs
 have CB:=hid cb
 have CX:=hid cx
 obtain⟨i0,hi,hz0,hz1,hz2⟩:=info_parts infoTk
 clear hs cb cx
 go_enter func8,ntmps8
 go_upto_region 1 with fail
 generalize z0z w _=W at *
 go_wp2_with fail
 clear z0
 go_loopw [4,5] (λv i wr=>∃ (k:Nat) (ts:List Yd),i=.int .i64 k/\k<=s.size/\T s.data.toList 0=ts++T (s.data.toList.drop k) k/\(∀y ∈ ts,y.c=0)/\ts.length<=k/\wr.ownsRow w.heap.size 30 5 v ts.length (rowsY ts)/\RaI w wr) (λ_ i _=>s.size-(intOf i).toNat)
 case atStart=>exact⟨0,[],rfl,Nat.zero_le _,rfl,by simp,Nat.zero_le _,World.ownsRow_nil _ _ _ _,hI⟩
 case round=>
  obtain⟨k,ts,rfl,hk,hT,hts,htl,hown,hJ⟩:=hrel
  obtain⟨o9,c9,hv⟩:=slice_ofX hown
  subst hv
  have cbk:=CB.out k hk
  have HT:=hid (z2z hT (z2z hts htl))
  have HO:=hid hown
  clear hT hts htl hown CB
  go_upto_region 7 with(first|(go_at_call 15;(with_reducible refine(cbk _).mono ?_);rintro e w' ⟨hw',k1,rfl,g1,g2,g3,g4⟩;(have hw2:=hw'.symm);subst hw2;clear hw';(have cxk:=CX.out k1 g2 g4);(have G:=hid (z2z g1 (z2z g2 g3)));clear g1 g2 g3 g4 CX cbk)|(go_at_call 16;(with_reducible refine(cxk _).mono ?_);rintro e Wn ⟨⟨t,x,y,c,f,rfl,hF⟩,hb⟩;(have HB:=hid hb);(have HF:=hid hF);clear hb hF cxk))
  have hB2:Below Wn.heap.size Wn ((Wn.alloc (.cells #[.int .i64 t.kind,.int .i64 x,.string t.text,.int .i64 t.int,.int .u64 t.bits] 30)).alloc (.cells #[.int .i64 c,.int .i64 f] 25)):=((z4z _ Wn).alloc (z1z _) _).alloc (by simp) _
  have f6:Blk ((Wn.alloc (.cells #[.int .i64 t.kind,.int .i64 x,.string t.text,.int .i64 t.int,.int .u64 t.bits] 30)).alloc (.cells #[.int .i64 c,.int .i64 f] 25)) Wn.heap.size #[.int .i64 t.kind,.int .i64 x,.string t.text,.int .i64 t.int,.int .u64 t.bits]:=(Blk.new Wn _ _).alloc _
  have f8:Blk ((Wn.alloc (.cells #[.int .i64 t.kind,.int .i64 x,.string t.text,.int .i64 t.int,.int .u64 t.bits] 30)).alloc (.cells #[.int .i64 c,.int .i64 f] 25)) (Wn.heap.size+1) #[.int .i64 c,.int .i64 f]:=by
   have:=Blk.new (Wn.alloc (.cells #[.int .i64 t.kind,.int .i64 x,.string t.text,.int .i64 t.int,.int .u64 t.bits] 30)) #[.int .i64 c,.int .i64 f] 25
   rwa [z11z] at this
  generalize z0z (z0z Wn _) _=W2 at *
  have hBw:Below wr.heap.size wr W2:=HB.out.trans (hB2.mono HB.out.size)
  have hJ2:=hJ.go hBw
  have hO2:=own_keepX HO.out hBw
  have HB6:=hid HB.out.size
  have hlow:w.heap.size<Wn.heap.size:=by have:=(z13z.1 hJ.h3).1;have:=HB.out.size;omega
  generalize Wn.heap.size=b6 at *
  have q0:W2.cell? ⟨b6,0,none⟩=some (.int .i64 t.kind):=f6.cells 0
  have q1:W2.cell? ⟨b6,1,none⟩=some (.int .i64 x):=f6.cells 1
  have q2:W2.cell? ⟨b6,2,none⟩=some (.string t.text):=f6.cells 2
  have q3:W2.cell? ⟨b6,3,none⟩=some (.int .i64 t.int):=f6.cells 3
  have q4:W2.cell? ⟨b6,4,none⟩=some (.int .u64 t.bits):=f6.cells 4
  have q5:W2.cell? ⟨b6+1,0,none⟩=some (.int .i64 c):=f8.cells 0
  have q6:W2.cell? ⟨b6+1,1,none⟩=some (.int .i64 f):=f8.cells 1
  have k5:W2.cell? ⟨w.heap.size,0,none⟩=some (.int .i64 0):=row_cellsX hJ2.h3 0
  have k6:W2.cell? ⟨w.heap.size,1,none⟩=some (.int .i64 0):=row_cellsX hJ2.h3 1
  have z6:=row_thawX hJ2.h3
  have HJ:=hid hJ2
  have HO2:=hid hO2
  have N6:=hid (show (Value.slice o9 ts.length c9).ownBlock≠some b6 from λe=>by have:=(HO.out.lt b6 e).2;have:=HB6.out;omega)
  have nb:¬b6+1=w.heap.size:=by omega
  have nb2:¬b6=w.heap.size:=by omega
  clear hB2 f6 f8 hBw hJ hJ2 hO2 HO HB hlow hI
  rcases HF.out with⟨hc,hT1⟩|⟨hc,hf,h7,hT1⟩|⟨hc,hf,h7,m,hy,hm1,hm2,hT1⟩
  ·have HR:=hid (show (T s.data.toList 0).find? (λy=>y.c != 0)=some ⟨noTk,0,c,f⟩ by
    rw[HT.out.1,G.out.2.2,hT1]
    exact find_last' ts _ HT.out.2.1 hc)
   clear hT1 HF HT G HO2
   go_upto_region 8 with fail
   go_region
   go_wp2
   have g3:((W2.setCell ⟨w.heap.size,0,none⟩ (.int .i64 c)).setCell ⟨w.heap.size,1,none⟩ (.int .i64 f)).drew.heap[w.heap.size]? = some (.cells #[.int .i64 c,.int .i64 f] 25 (0,0)):=heap_setX (c:=[.int .i64 c,.int .i64 0]) (heap_setX (c:=[.int .i64 0,.int .i64 0]) HJ.out.h3 0 (.int .i64 c)) 1 (.int .i64 f)
   refine bodyPost_ret (all_ret2 rfl _ _ w.heap.size _ _ _ (0,0) rfl rfl g3) rfl ?_
   exact⟨((HJ.out.bel.setCell (p:=⟨w.heap.size,0,none⟩) (z1z _) _).setCell (p:=⟨w.heap.size,1,none⟩) (z1z _) _).drew,.inl ⟨_,HR.out,rfl⟩⟩
  ·subst hc hf
   have H7:=hid h7
   clear h7
   have HR:=hid (z2z (show T s.data.toList 0=ts++[⟨t,x,0,0⟩] by rw[HT.out.1,G.out.2.2,hT1]) HT.out.2.1)
   have HTL:=hid (show ts.length<=65536 by have:=HT.out.2.2;have:=HS.out;omega)
   clear hT1 HF HT G
   go_wp2_with (at_builtin;refine wpList_append_own _ rfl _ _ 22 rfl w.heap.size 30 i0 _ 5 48 rowT hi hz0 hz1 hz2 rfl (by decide) _ _ _ rfl (HO2.out.alloc _) ⟨_,0,none⟩ 1 1 [.int .i64 t.kind,.int .i64 x,.string t.text,.int .i64 t.int,.int .u64 t.bits] rfl rfl ?c1 ?c2 ?c3 ?c4 ?c5 ?_)
   case c1=>
    intro j u hj
    match j,hj with
    | 0,hj=>simp at hj;subst hj;simp[Addr.add]
    | 1,hj=>simp at hj;subst hj;simp[Addr.add]
    | 2,hj=>simp at hj;subst hj;simp[Addr.add]
    | 3,hj=>simp at hj;subst hj;simp[Addr.add]
    | 4,hj=>simp at hj;subst hj;simp[Addr.add]
   case c2=>intro u hu;simp at hu;rcases hu with rfl|rfl|rfl|rfl|rfl <;> rfl
   case c3=>have:=HTL.out;unfold maxLen;omega
   case c4=>have:=HTL.out;omega
   case c5=>have:=HJ.out.bel.size;simp;omega
   ·intro v' w1 hown' hgrow _
    obtain⟨o8,c8,hv8⟩:=slice_ofX hown'
    subst hv8
    have ub:Below w.heap.size w w1:=(HJ.out.bel.alloc (by have:=HJ.out.bel.size;omega) _).grown hgrow (by have:=HJ.out.bel.size;simp;omega) (λg hg=>(HO2.out.lt g hg).1)
    have upd:It.Upd (λj=>(Value.slice o9 ts.length c9).ownBlock=some j) W2 w1:=(It.Upd.of_below ((z4z _ W2).alloc (z1z _) _)).trans' ((It.Upd.refl _ _).grown hgrow (λj e=>.inl e))
    have h3:w1.heap[w.heap.size]? = some (.cells #[.int .i64 0,.int .i64 0] 25 (0,0)):=(upd.block _ (z13z.1 HJ.out.h3).1 (λe=>own_neX HO2.out HJ.out.h3 (by decide) e)).trans HJ.out.h3
    have h6:w1.cell? ⟨b6,0,none⟩=some (.int .i64 t.kind):=by
     have:w1.heap[b6]? = W2.heap[b6]?:=upd.block _ (z15z W2 _ q0) (λe=>N6.out e)
     rw[World.cell?_of_block this];exact q0
    have k5:w1.cell? ⟨w.heap.size,0,none⟩=some (.int .i64 0):=row_cellsX h3 0
    have k6:w1.cell? ⟨w.heap.size,1,none⟩=some (.int .i64 0):=row_cellsX h3 1
    have z6:=row_thawX h3
    have HOW:=hid hown'
    have HUB:=hid ub
    have H3:=hid h3
    clear hown' hgrow ub upd h3 q0 q1 q2 q3 q4 q5 q6 HJ
    have h7:=H7.out
    go_wp2
    have g3:((w1.setCell ⟨w.heap.size,0,none⟩ (.int .i64 0)).setCell ⟨w.heap.size,1,none⟩ (.int .i64 0)).heap[w.heap.size]? = some (.cells #[.int .i64 0,.int .i64 0] 25 (0,0)):=heap_setX (c:=[.int .i64 0,.int .i64 0]) (heap_setX (c:=[.int .i64 0,.int .i64 0]) H3.out 0 (.int .i64 0)) 1 (.int .i64 0)
    refine bodyPost_ret (all_ret2 rfl _ _ w.heap.size _ _ _ (0,0) rfl rfl g3) rfl ?_
    refine⟨(HUB.out.setCell (p:=⟨w.heap.size,0,none⟩) (z1z _) _).setCell (p:=⟨w.heap.size,1,none⟩) (z1z _) _,.inr ⟨?_,_,rfl,?_⟩⟩
    ·rw[HR.out.1]
     intro z hz
     rcases z10z.1 hz with hz|hz
     ·exact HR.out.2 z hz
     ·simp only[List.mem_singleton] at hz;rw[hz]
    ·rw[HR.out.1,rows_one,z14z]
     refine owns_onX HOW.out (λj e=>?_)
     have hj:j≠w.heap.size:=λe2=>own_neX HOW.out H3.out (by decide) (e.trans (congrArg some e2))
     exact(z3z _ _ _ _ (by show j≠w.heap.size;exact hj)).trans (z3z _ _ _ _ (by show j≠w.heap.size;exact hj))
  ·subst hc hf hy
   have HR:=hid (z2z (show T s.data.toList 0=(ts++[⟨t,x,0,0⟩])++T (s.data.toList.drop m) m by rw[HT.out.1,G.out.2.2,hT1,List.append_assoc];rfl) HT.out.2.1)
   have HTL:=hid (show ts.length<=65536 by have:=HT.out.2.2;have:=HS.out;omega)
   have HM:=hid (show k<m/\m<=s.size/\ts.length+1<=m by have:=HT.out.2.2;have:=G.out.1;rw[size_list] at hm2;exact⟨by omega,hm2,by omega⟩)
   clear hT1 HF HT G hm1 hm2
   go_wp2_with (at_builtin;refine wpList_append_own _ rfl _ _ 22 rfl w.heap.size 30 i0 _ 5 48 rowT hi hz0 hz1 hz2 rfl (by decide) _ _ _ rfl (HO2.out.alloc _) ⟨_,0,none⟩ 1 1 [.int .i64 t.kind,.int .i64 x,.string t.text,.int .i64 t.int,.int .u64 t.bits] rfl rfl ?c1 ?c2 ?c3 ?c4 ?c5 ?_)
   case c1=>
    intro j u hj
    match j,hj with
    | 0,hj=>simp at hj;subst hj;simp[Addr.add]
    | 1,hj=>simp at hj;subst hj;simp[Addr.add]
    | 2,hj=>simp at hj;subst hj;simp[Addr.add]
    | 3,hj=>simp at hj;subst hj;simp[Addr.add]
    | 4,hj=>simp at hj;subst hj;simp[Addr.add]
   case c2=>intro u hu;simp at hu;rcases hu with rfl|rfl|rfl|rfl|rfl <;> rfl
   case c3=>have:=HTL.out;unfold maxLen;omega
   case c4=>have:=HTL.out;omega
   case c5=>have:=HJ.out.bel.size;simp;omega
   ·intro v' w1 hown' hgrow _
    obtain⟨o8,c8,hv8⟩:=slice_ofX hown'
    subst hv8
    have ub:Below w.heap.size w w1:=(HJ.out.bel.alloc (by have:=HJ.out.bel.size;omega) _).grown hgrow (by have:=HJ.out.bel.size;simp;omega) (λg hg=>(HO2.out.lt g hg).1)
    have upd:It.Upd (λj=>(Value.slice o9 ts.length c9).ownBlock=some j) W2 w1:=(It.Upd.of_below ((z4z _ W2).alloc (z1z _) _)).trans' ((It.Upd.refl _ _).grown hgrow (λj e=>.inl e))
    have h3:w1.heap[w.heap.size]? = some (.cells #[.int .i64 0,.int .i64 0] 25 (0,0)):=(upd.block _ (z13z.1 HJ.out.h3).1 (λe=>own_neX HO2.out HJ.out.h3 (by decide) e)).trans HJ.out.h3
    have h6:w1.cell? ⟨b6,0,none⟩=some (.int .i64 t.kind):=by
     have:w1.heap[b6]? = W2.heap[b6]?:=upd.block _ (z15z W2 _ q0) (λe=>N6.out e)
     rw[World.cell?_of_block this];exact q0
    have k5:w1.cell? ⟨w.heap.size,0,none⟩=some (.int .i64 0):=row_cellsX h3 0
    have k6:w1.cell? ⟨w.heap.size,1,none⟩=some (.int .i64 0):=row_cellsX h3 1
    have z6:=row_thawX h3
    have HOW:=hid hown'
    have HUB:=hid ub
    have H3:=hid h3
    clear hown' hgrow ub upd h3 q0 q1 q2 q3 q4 q5 q6 HJ
    go_wp2
    go_roundw
    case rel=>
     refine⟨m,ts++[⟨t,x,0,0⟩],rfl,HM.out.2.1,HR.out.1,?_,by rw[z14z];exact HM.out.2.2,?_,⟨HUB.out,H3.out⟩⟩
     ·intro z hz
      rcases z10z.1 hz with hz|hz
      ·exact HR.out.2 z hz
      ·simp only[List.mem_singleton] at hz;rw[hz]
     ·rw[rows_one,z14z];exact HOW.out
    case measure=>have:=HM.out;simp[intOf];omega
end Go.Proofs.YtknkedihmmbanaaDoor.W
