import Derived.Test.YtgchnkgolclmgaaGreatDoorJC
import Derived.Test.YtgchnkgolclmgaaGreatDoorJF
import Derived.Test.YtgchnkgolclmgaaGreatDoorJG
import Derived.Laws.Rows
import Derived.Laws.OwnMore
open List renaming length_drop → eU
open Nat renaming le_refl → aH, le_trans → bY
open Go.World renaming alloc_heap_new → ay
open Go.RowKit.Below renaming refl → aY
open Bool renaming eq_iff_iff → bO
open Go.IntKind renaming i64 → dI, wrap_i64 → dQ
open Go.Lib renaming hasPrefix → aL
open Go.Proofs.Tryz
set_option maxRecDepth 1000000
set_option maxHeartbeats 8000000
namespace Go.Proofs.YtgchnkgolclmgaaGreatDoor.W
open Go.ChangeShapes Go.WideShapes Go.RowKit Go.Shelf
set_option linter.unusedVariables false
theorem oK(c:UInt8)(n:Nat)(h:n<256):(c==n.toUInt8)=decide (c.toNat=n):=by
 rw[bO,beq_iff_eq,decide_eq_true_eq]
 constructor
 ·rintro rfl;simp;omega
 ·intro e;rw[<- e];simp
theorem JC(c:UInt8)(w:World):Calls prog 101 #[.int .u8 c.toNat] w λe w'=>e=.returned (.bool (iC c))/\w'=w:=by
 have e1:iC c=(decide (c.toNat=32)||decide (c.toNat=9)||decide (c.toNat=10)):=by
  unfold iC
  rw[<- oK c 32 (by decide),<- oK c 9 (by decide),<- oK c 10 (by decide)];rfl
 rw[e1]
 go_enter func101,ntmps101
 go_wp2
 all_goals (go_ret;refine⟨jC ?_,rfl⟩;rw[bO];simp;omega)
theorem pz(c:UInt8)(w:World):Calls prog 103 #[.int .u8 c.toNat] w λe w'=>e=.returned (.bool (bI c))/\w'=w:=by
 go_enter func103,ntmps103
 go_wp2
 all_goals (go_ret;refine⟨jC ?_,rfl⟩;simp only[bI];rw[bO];simp only[decide_eq_true_eq,Bool.false_eq_true,false_iff];omega)
theorem MJ(c:UInt8)(w:World):Calls prog 100 #[.int .u8 c.toNat] w λe w'=>e=.returned (.bool (iE c))/\w'=w:=by
 have e1:iE c = !decide (c.toNat=10):=by
  unfold iE bne
  rw[<- oK c 10 (by decide)];rfl
 rw[e1]
 go_enter func100,ntmps100
 go_wp2
 all_goals (go_ret;refine⟨jC ?_,rfl⟩;first|rfl|(rw[bO];simp;done)|(rw[bO];simp;omega))
theorem MI(c:UInt8)(w:World):Calls prog 102 #[.int .u8 c.toNat] w λe w'=>e=.returned (.bool (dO c))/\w'=w:=by
 have e1:dO c=(decide (97<=c.toNat/\c.toNat<=122)||bI c||decide (c.toNat=95)):=by
  unfold dO
  rw[<- oK c 95 (by decide)];rfl
 rw[e1]
 cases hd:bI c
 all_goals (
  have cd:=pz c
  rw[hd] at cd
  clear e1 hd
  go_enter func102,ntmps102
  go_wp2_with (go_at_call 103;(with_reducible refine(cd _).mono ?_);rintro e w' ⟨rfl,rfl⟩)
  all_goals (go_ret;refine⟨jC ?_,rfl⟩;first|rfl|(rw[bO];simp;done)|(rw[bO];simp;omega)))
theorem Ah(c:UInt8)(w:World):Calls prog 107 #[.int .u8 c.toNat] w λe w'=>e=.returned (.bool (iN c))/\w'=w:=by
 have e1:iN c=(decide (c.toNat=46)||dY c):=by
  unfold iN
  rw[<- oK c 46 (by decide)];rfl
 have e2:dY c=decide (bT c≥0):=rfl
 rw[e1,e2]
 clear e1 e2
 have ci:=eB c
 generalize bT c=v at *
 go_enter func107,ntmps107
 go_wp2_with (go_at_call 140;(with_reducible refine(ci _).mono ?_);rintro e w' ⟨rfl,rfl⟩)
 all_goals (go_ret;refine⟨jC ?_,rfl⟩;first|rfl|(rw[bO];simp;done)|(rw[bO];simp;omega))
theorem get_at(s:ByteArray)(k:Nat)(h:k<s.size):s.data.toList[k]? = some s[k]:=by
 rw[Array.getElem?_toList,Array.getElem?_eq_getElem h];rfl
theorem yO(s:ByteArray)(hs:s.size<=maxLen)(f:Nat)(p:UInt8->Bool)(eg:∀args w,(callFunc f args).run prog w=.ok (.enter f args) w)(cp:∀ (c:UInt8) (w:World),Calls prog f #[.int .u8 c.toNat] w λe w'=>e=.returned (.bool (p c))/\w'=w)(w:World) :
  Calls prog 99 #[.string s,.func (.func f) #[] #[]] w λe w'=>e=.returned (.int .i64 (runN p s.data.toList))/\w'=w:=by
 unfold maxLen at hs
 have sl:=size_list s
 go_enter func99,ntmps99
 go_wp2_with fail
 go_loop [8] (λi=>∃k:Nat,k<=s.size/\i=.int .i64 k/\(s.data.toList.take k).all p=true) (λi=>s.size-(intOf i).toNat)
 case atStart=>exact⟨0,Nat.zero_le _,rfl,rfl⟩
 case round=>
  obtain⟨k,hk,rfl,ha⟩:=hrel
  by_cases hlt:k<s.size
  ·have cc:=cp s[k]
   cases hd:p s[k] with
   | true=>
    have R:=hid (show (s.data.toList.take (k+1)).all p=true by rw[iA s k hlt,List.all_append,ha];simp[hd])
    rw[hd] at cc
    clear ha hd
    go_wp2_with (go_at_fn f;(with_reducible refine(cc _).mono ?_);rintro e w' ⟨rfl,rfl⟩)
    go_round
    case rel=>exact⟨k+1,hlt,by go_num,R.out⟩
    case measure=>simp[intOf];omega
   | false=>
    have R:=hid (Fp p s.data.toList k ha (by omega) (λc hc=>by rw[get_at s k hlt] at hc;injection hc with hc;rw[<- hc];exact hd))
    rw[hd] at cc
    clear ha hd
    go_wp2_with (go_at_fn f;(with_reducible refine(cc _).mono ?_);rintro e w' ⟨rfl,rfl⟩)
    go_ret
    exact⟨by rw[R.out];rfl,rfl⟩
  ·have R:=hid (Fp p s.data.toList k ha (by omega) (λc hc=>by rw[List.getElem?_eq_none (by omega)] at hc;cases hc))
   have hk2:k=s.size:=by omega
   clear ha
   subst hk2
   go_wp2_with fail
   go_ret
   exact⟨by rw[R.out];rfl,rfl⟩
theorem pcT:(prog.underlying 84).map (λd=>match d with | .struct _ | .array _ _=>true|_=>false)=some true:=by kernel_rfl
theorem aAP:(prog.info? 84).map (·.size)=some 7:=by kernel_rfl
theorem iT{fn:Func}{p:Tmp}(h:fn.results = #[.cell p 84])(tmps:Array Value)(w:World)(gb:Nat)(v0 v1 v2 v3 v4 v5 v6:Value)(fr:Nat × Nat)(hp:tmps.getD p undef=.pointer (some ⟨gb,0,none⟩))(hg:w.heap[gb]? = some (.cells #[v0,v1,v2,v3,v4,v5,v6] 84 fr)):(results fn tmps).run prog w=.ok (.agg #[v0,v1,v2,v3,v4,v5,v6]) w:=by
 have ht:=pcT
 cases hu:prog.underlying 84 with
 | none=>rw[hu] at ht;cases ht
 | some d=>
  rw[hu] at ht
  simp only[Option.map_some,Option.some.injEq] at ht
  refine results_cell_row h tmps w gb _ _ fr d hp hg hu ?_ (by rw[aAP];rfl)
  cases d <;> first|rfl|exact ht
theorem aM{W:World}{b:Nat}{c:List Value}{t:TypeId}(hb:W.heap[b]? = some (.cells c.toArray t (0,0)))(j:Nat)(u:Value):(W.setCell ⟨b,j,none⟩ u).heap[b]? = some (.cells (c.set j u).toArray t (0,0)):=by
 simp only[World.setCell,Array.getElem?_modify]
 rw[hb]
 simp
theorem mX{w:World}{gb:Nat}{z0 z1 z2 z3 z4 z5 z6:Value}{t:TypeId}(hg:w.heap[gb]? = some (.cells #[z0,z1,z2,z3,z4,z5,z6] t (0,0)))(v0 v1 v2 v3 v4 v5 v6:Value):(((((((w.setCell ⟨gb,0,none⟩ v0).setCell ⟨gb,1,none⟩ v1).setCell ⟨gb,2,none⟩ v2).setCell ⟨gb,3,none⟩ v3).setCell ⟨gb,4,none⟩ v4).setCell ⟨gb,5,none⟩ v5).setCell ⟨gb,6,none⟩ v6).heap[gb]? = some (.cells #[v0,v1,v2,v3,v4,v5,v6] t (0,0)):=by
 have h0:w.heap[gb]? = some (.cells [z0,z1,z2,z3,z4,z5,z6].toArray t (0,0)):=hg
 have h1:=aM h0 0 v0
 have h2:=aM h1 1 v1
 have h3:=aM h2 2 v2
 have h4:=aM h3 3 v3
 have h5:=aM h4 4 v4
 have h6:=aM h5 5 v5
 have h7:=aM h6 6 v6
 exact h7
theorem kK{w a:World}{gb B:Nat}(h:Below B a w)(hB:B<=gb)(v0 v1 v2 v3 v4 v5 v6:Value):Below B a (((((((w.setCell ⟨gb,0,none⟩ v0).setCell ⟨gb,1,none⟩ v1).setCell ⟨gb,2,none⟩ v2).setCell ⟨gb,3,none⟩ v3).setCell ⟨gb,4,none⟩ v4).setCell ⟨gb,5,none⟩ v5).setCell ⟨gb,6,none⟩ v6):=
 ((((((h.setCell (p:=⟨gb,0,none⟩) hB v0).setCell (p:=⟨gb,1,none⟩) hB v1).setCell (p:=⟨gb,2,none⟩) hB v2).setCell (p:=⟨gb,3,none⟩) hB v3).setCell (p:=⟨gb,4,none⟩) hB v4).setCell (p:=⟨gb,5,none⟩) hB v5).setCell (p:=⟨gb,6,none⟩) hB v6
def pv(p:Pc):Value:=.agg #[.int .i64 p.t.kind,.int .i64 0,.string p.t.text,.int .i64 p.t.int,.int .u64 p.t.bits,.int .i64 (p.size:Nat),.int .i64 p.code]
theorem J5:∀args w,(callFunc 100 args).run prog w=.ok (.enter 100 args) w:=enters_of func100 (by kernel_rfl) rfl
theorem FM:∀args w,(callFunc 101 args).run prog w=.ok (.enter 101 args) w:=enters_of func101 (by kernel_rfl) rfl
theorem JZ:∀args w,(callFunc 102 args).run prog w=.ok (.enter 102 args) w:=enters_of func102 (by kernel_rfl) rfl
theorem xC:∀args w,(callFunc 103 args).run prog w=.ok (.enter 103 args) w:=enters_of func103 (by kernel_rfl) rfl
theorem yB:∀args w,(callFunc 107 args).run prog w=.ok (.enter 107 args) w:=enters_of func107 (by kernel_rfl) rfl
theorem vQ(s:ByteArray)(h:0<s.size)(n:Nat)(hn:n<256):s.data.toList.head? = some n.toUInt8↔s[0].toNat=n:=by
 have e:s.data.toList.head? = some s[0]:=by rw[List.head?_eq_getElem?,get_at s 0 h]
 rw[e]
 constructor
 ·intro e;injection e with e;rw[e];simp;omega
 ·intro e;rw[<- e];simp
theorem Vt(s:ByteArray)(h0:0<s.size)(hs:s.size<=maxLen)(w:World):Calls prog 75 #[.string s] w λe w'=>e=.returned (pv (sK s.data.toList))/\Below w.heap.size w w':=by
 by_cases c:s[0].toNat=35
 ·have e:xA s.data.toList=runN iE s.data.toList:=if_pos ((vQ s h0 35 (by decide)).2 c)
  have cr:=λw=>yO s hs 100 iE J5 MJ w
  unfold pv sK
  rw[e]
  generalize runN iE s.data.toList=n at *
  clear e hs
  go_enter func75,ntmps75
  go_wp2_with (go_at_call 99;(with_reducible refine(cr _).mono ?_);rintro e w' ⟨rfl,rfl⟩)
  refine bodyPost_ret (iT rfl _ _ w.heap.size _ _ _ _ _ _ _ (0,0) rfl (ay w _)) rfl ?_;exact⟨rfl,(aY _ w).alloc (aH _) _⟩
 ·have e:xA s.data.toList=runN iC s.data.toList:=if_neg (λg=>c ((vQ s h0 35 (by decide)).1 g))
  have cr:=λw=>yO s hs 101 iC FM JC w
  unfold pv sK
  rw[e]
  generalize runN iC s.data.toList=n at *
  clear e hs
  go_enter func75,ntmps75
  go_wp2_with (go_at_call 99;(with_reducible refine(cr _).mono ?_);rintro e w' ⟨rfl,rfl⟩)
  refine bodyPost_ret (iT rfl _ _ w.heap.size _ _ _ _ _ _ _ (0,0) rfl (ay w _)) rfl ?_;exact⟨rfl,(aY _ w).alloc (aH _) _⟩
theorem FP(s:ByteArray)(k:Nat):s.extract 0 k=⟨(s.data.toList.take k).toArray⟩:=by
 obtain⟨⟨l⟩⟩:=s
 rw[ByteArray.extract_mk]
 simp
theorem xE(s:ByteArray)(k:Nat):(s.extract 0 k).size<=s.size:=by simp;omega
theorem Nq(s:ByteArray)(hs:s.size<=maxLen)(w:World):Calls prog 78 #[.string s] w λe w'=>e=.returned (pv (fJ s.data.toList))/\Below w.heap.size w w':=by
 have cr:=λw=>yO s hs 103 bI xC pz w
 have hn:=gZ bI s.data.toList
 rw[size_list] at hn
 have cp:=λw=>EW (s.extract 0 (runN bI s.data.toList)) (bY (xE s _) hs) w
 have el:(s.extract 0 (runN bI s.data.toList)).data.toList=s.data.toList.take (runN bI s.data.toList):=by rw[FP]
 rw[el] at cp
 unfold fJ
 by_cases c:runN bI s.data.toList=0
 ·rw[if_pos c]
  rw[c] at cr
  clear cp hn el c hs
  unfold pv lJ
  go_enter func78,ntmps78
  go_wp2_with (go_at_call 99;(with_reducible refine(cr _).mono ?_);rintro e w' ⟨rfl,rfl⟩)
  refine bodyPost_ret (iT rfl _ _ w.heap.size _ _ _ _ _ _ _ (0,0) rfl (ay w _)) rfl ?_;exact⟨rfl,(aY _ w).alloc (aH _) _⟩
 ·rw[if_neg c]
  generalize runN bI s.data.toList=n at *
  obtain⟨⟨v,e⟩,hve⟩:∃x,kW (s.data.toList.take n)=x:=⟨_,rfl⟩
  rw[hve] at cp ⊢
  unfold maxLen at hs
  have hw0:dI.wrap ((n:Nat):Int)=(n:Nat):=by rw[dQ];omega
  clear el hve
  by_cases c2:e=0
  ·subst c2
   show Calls _ _ _ _ λe w'=>e=.returned (pv (kN ⟨4,⟨#[]⟩,v,0⟩ n))/\_
   unfold pv kN
   go_enter func78,ntmps78
   go_wp2_with ((with_reducible (apply Calls.mono;first|exact cr _|exact cp _));rintro e w' ⟨rfl,rfl⟩)
   refine bodyPost_ret (iT rfl _ _ w.heap.size _ _ _ _ _ _ _ (0,0) rfl (ay w _)) rfl ?_;exact⟨rfl,(aY _ w).alloc (aH _) _⟩
  ·rw[if_neg c2]
   unfold pv gG
   go_enter func78,ntmps78
   go_wp2_with ((with_reducible (apply Calls.mono;first|exact cr _|exact cp _));rintro e w' ⟨rfl,rfl⟩)
   refine bodyPost_ret (iT rfl _ _ w.heap.size _ _ _ _ _ _ _ (0,0) rfl (ay w _)) rfl ?_;exact⟨rfl,(aY _ w).alloc (aH _) _⟩
theorem I5(l:List UInt8)(c:UInt8):aL l [c]=true↔∃q,l=c::q:=by
 unfold aL
 cases l with
 | nil=>simp[List.isPrefixOf]
 | cons d q=>
  simp[List.isPrefixOf]
  constructor
  ·intro h;exact h.symm
  ·intro h;exact h.symm
theorem LV(l:List UInt8)(h:aL l [112]=false):mO l=0:=by
 cases l with
 | nil=>rfl
 | cons c q=>
  have hc:c≠112:=by rintro rfl;rw[(I5 _ _).2 ⟨q,rfl⟩] at h;cases h
  unfold mO
  split <;> first|rfl|(rename_i e;injection e with e1;exact absurd e1 hc)
theorem I8(q:List UInt8)(h1:aL q [43]=false)(h2:aL q [45]=false):mO (112::q)=1+runN bI q:=by
 cases q with
 | nil=>rfl
 | cons c d=>
  have c1:c≠43:=by rintro rfl;rw[(I5 _ _).2 ⟨d,rfl⟩] at h1;cases h1
  have c2:c≠45:=by rintro rfl;rw[(I5 _ _).2 ⟨d,rfl⟩] at h2;cases h2
  unfold mO
  split
  ·rename_i e;injection e with _ e;injection e with e;exact absurd e c1
  ·rename_i e;injection e with _ e;injection e with e;exact absurd e c2
  ·rename_i e;injection e with _ e;rw[e]
  ·rename_i e;exact absurd rfl (e _)
theorem drop_at(s:ByteArray)(k:Nat)(q:List UInt8)(h:s.data.toList.drop k=q):s.extract k s.size=⟨q.toArray⟩:=by rw[iW,h]
theorem qj(s t u:ByteArray)(b2 b3:Bool)(n k:Nat)(h1:1<=s.size)(hs:s.size<=1000000)(ht:s.extract 1 s.size=t)(hu:s.extract k s.size=u)(hk:k=if (b2||b3)=true then 2 else 1)(hk2:k<=s.size)(hn:n<=s.size)
  (c1:∀w,Calls prog 106 #[.string s,.string ⟨#[112]⟩] w λe w'=>e=.returned (.bool true)/\w'=w) (c2:∀w,Calls prog 106 #[.string t,.string ⟨#[43]⟩] w λe w'=>e=.returned (.bool b2)/\w'=w) (c3:∀w,Calls prog 106 #[.string t,.string ⟨#[45]⟩] w λe w'=>e=.returned (.bool b3)/\w'=w)
  (cr:∀w,Calls prog 99 #[.string u,.func (.func 103) #[] #[]] w λe w'=>e=.returned (.int .i64 (n:Nat))/\w'=w) (w:World):Calls prog 108 #[.string s] w λe w'=>e=.returned (.int .i64 ((k+n:Nat):Int))/\w'=w:=by
 have R:=hid (show ((k+n:Nat):Int)=(k:Int)+n by omega)
 have e1:dI.wrap (1+(n:Int))=1+(n:Int):=by rw[dQ];omega
 have e2:dI.wrap (2+(n:Int))=2+(n:Int):=by rw[dQ];omega
 have g1:(1:Int)<=s.size:=by omega
 rw[R.out]
 cases b2 <;> cases b3 <;> simp only[Bool.or_false,Bool.or_true,Bool.false_eq_true,if_true,if_false] at hk <;> subst hk
 all_goals (
  first|(have g2:(2:Int)<=s.size:=by omega)|skip
  first|(have hut:t=u:=ht.symm.trans hu;subst hut;clear hu)|skip
  clear R hn h1
  go_enter func108,ntmps108
  go_wp2_with ((with_reducible (apply Calls.mono;first|exact c1 _|exact c2 _|exact c3 _|exact cr _));rintro e w' ⟨rfl,rfl⟩)
  go_ret
  exact⟨rfl,rfl⟩)
theorem C8(s:ByteArray)(hs:s.size<=1000000)(w:World):Calls prog 108 #[.string s] w λe w'=>e=.returned (.int .i64 (mO s.data.toList:Nat))/\w'=w:=by
 have sl:=size_list s
 have c1:=λw=>jS s ⟨#[112]⟩ w
 cases hp:aL s.data.toList [112] with
 | false=>
  rw[LV _ hp]
  have e:aL s.data.toList (⟨#[112]⟩:ByteArray).data.toList=false:=hp
  rw[e] at c1
  clear hp e sl hs
  go_enter func108,ntmps108
  go_wp2_with (go_at_call 106;(with_reducible refine(c1 _).mono ?_);rintro e w' ⟨rfl,rfl⟩)
  go_ret
  exact⟨rfl,rfl⟩
 | true=>
  have e:aL s.data.toList (⟨#[112]⟩:ByteArray).data.toList=true:=hp
  rw[e] at c1
  obtain⟨q,hq⟩:=(I5 _ _).1 hp
  have t1:=drop_at s 1 q (by rw[hq];rfl)
  have z1:1<=s.size:=by rw[hq] at sl;simp at sl;omega
  have tl:(⟨q.toArray⟩:ByteArray).data.toList=q:=by simp
  have c2:=λw=>jS ⟨q.toArray⟩ ⟨#[43]⟩ w
  have c3:=λw=>jS ⟨q.toArray⟩ ⟨#[45]⟩ w
  rw[tl] at c2 c3
  have el:∀k,s.data.toList.drop k=(112::q).drop k:=λk=>by rw[hq]
  have lq:q.length+1=s.size:=by rw[hq] at sl;simpa using sl
  have fin:∀ (k:Nat) (d:List UInt8),(112::q).drop k=d->k<=s.size->∀w,Calls prog 99 #[.string ⟨d.toArray⟩,.func (.func 103) #[] #[]] w λe w'=>e=.returned (.int .i64 (runN bI d:Nat))/\w'=w:=λk d hd hk w=>by
   have hz:(⟨d.toArray⟩:ByteArray).size=d.length:=rfl
   have:d.length<=s.size:=by rw[<- hd,eU];simp;omega
   have:=yO ⟨d.toArray⟩ (by rw[hz];unfold maxLen;omega) 103 bI xC pz w
   simpa using this
  have hl:∀ (k:Nat) (d:List UInt8),(112::q).drop k=d->runN bI d<=s.size:=λk d hd=>by
   have h1:=gZ bI d
   have h2:d.length<=s.size:=by rw[<- hd,eU];simp;omega
   omega
  rw[hq]
  cases h2:aL q [43] with
  | true=>
   obtain⟨d,hd⟩:=(I5 _ _).1 h2
   have e2:aL q (⟨#[43]⟩:ByteArray).data.toList=true:=h2
   rw[e2] at c2
   have hpw:mO (112::q)=2+runN bI d:=by rw[hd];rfl
   have hdr:(112::q).drop 2=d:=by rw[hd];rfl
   have hz:2<=s.size:=by rw[hd] at lq;simp at lq;omega
   rw[hpw]
   exact qj s ⟨q.toArray⟩ ⟨d.toArray⟩ true _ _ 2 z1 hs t1 (drop_at s 2 d (by rw[el,hdr])) rfl hz (hl 2 d hdr) c1 c2 c3 (fin 2 d hdr hz) w
  | false=>
   have e2:aL q (⟨#[43]⟩:ByteArray).data.toList=false:=h2
   rw[e2] at c2
   cases h3:aL q [45] with
   | true=>
    obtain⟨d,hd⟩:=(I5 _ _).1 h3
    have e3:aL q (⟨#[45]⟩:ByteArray).data.toList=true:=h3
    rw[e3] at c3
    have hpw:mO (112::q)=2+runN bI d:=by rw[hd];rfl
    have hdr:(112::q).drop 2=d:=by rw[hd];rfl
    have hz:2<=s.size:=by rw[hd] at lq;simp at lq;omega
    rw[hpw]
    exact qj s ⟨q.toArray⟩ ⟨d.toArray⟩ false true _ 2 z1 hs t1 (drop_at s 2 d (by rw[el,hdr])) rfl hz (hl 2 d hdr) c1 c2 c3 (fin 2 d hdr hz) w
   | false=>
    have e3:aL q (⟨#[45]⟩:ByteArray).data.toList=false:=h3
    rw[e3] at c3
    rw[I8 q h2 h3]
    exact qj s ⟨q.toArray⟩ ⟨q.toArray⟩ false false _ 1 z1 hs t1 t1 rfl z1 (hl 1 q rfl) c1 c2 c3 (fin 1 q rfl z1) w
theorem Tabs.on{w:World}(h:Tabs w)(o:Obj):Tabs (w.alloc o):=h.below ((aY _ w).alloc (aH _) o)
theorem aAO(l:List UInt8):aL l wu=decide (l.take 2=wu):=by
 unfold aL wu
 rw[bO,List.isPrefixOf_iff_prefix,decide_eq_true_eq]
 constructor
 ·rintro⟨r,rfl⟩;rfl
 ·intro h;exact⟨l.drop 2,by rw[<- h,List.take_append_drop]⟩
theorem aF{w w':World}{b:Nat}{o:Obj}(h:w.heap[b]? = some o)(hB:Below w.heap.size w w'):w'.heap[b]? = some o:=(hB.block b (Array.getElem?_eq_some_iff.1 h).1).trans h
theorem aA{w:World}{b:Nat}{l:Array Value}{t:TypeId}(h:w.heap[b]? = some (.cells l t (0,0))):∀j,w.cell? ⟨b,j,none⟩=l[j]?:=λj=>cell_of_row _ b j _ _ _ h
theorem aC{w:World}{b:Nat}{l:Array Value}{t:TypeId}(h:w.heap[b]? = some (.cells l t (0,0))):∀j,w.frozen? ⟨b,j,none⟩=false:=λj=>by simp only[World.frozen?,h];simp
theorem DU(s t u v:ByteArray)(a b n:Nat)(x y:Int)(hs:s.size<=1000000)(h2:2<=s.size)(ha:2+a<=s.size)(hb:2+a+b<=s.size)(ht:s.extract 2 s.size=t)(hu:s.extract (2+a) s.size=u)(hv:s.extract 0 (2+a+b)=v)(hn:n=2+a+b)
  (c1:∀w,Calls prog 106 #[.string s,.string ⟨#[48,120]⟩] w λe w'=>e=.returned (.bool true)/\w'=w) (cr:∀w,Calls prog 99 #[.string t,.func (.func 107) #[] #[]] w λe w'=>e=.returned (.int .i64 (a:Nat))/\w'=w)
  (cw:∀w,Calls prog 108 #[.string u] w λe w'=>e=.returned (.int .i64 (b:Nat))/\w'=w) (w:World)
  (cp:Calls prog 109 #[.string v] (w.alloc (.cells #[.int .i64 0,.int .i64 0,.string ⟨#[]⟩,.int .i64 0,.int .u64 0,.int .i64 0,.int .i64 0] 84)) λe w'=>e=.returned (.tuple #[.int .u64 x,.int .i64 y])/\Below (w.alloc (.cells #[.int .i64 0,.int .i64 0,.string ⟨#[]⟩,.int .i64 0,.int .u64 0,.int .i64 0,.int .i64 0] 84)).heap.size (w.alloc (.cells #[.int .i64 0,.int .i64 0,.string ⟨#[]⟩,.int .i64 0,.int .u64 0,.int .i64 0,.int .i64 0] 84)) w') :
  Calls prog 77 #[.string s] w λe w'=>e=.returned (pv (if y=0 then kN ⟨5,⟨#[]⟩,0,x⟩ n else gG n 62))/\Below w.heap.size w w':=by
 have hB1:Below w.heap.size w (w.alloc (.cells #[.int .i64 0,.int .i64 0,.string ⟨#[]⟩,.int .i64 0,.int .u64 0,.int .i64 0,.int .i64 0] 84)):=(aY _ w).alloc (aH _) _
 have FR:=hid (ay w (.cells #[.int .i64 0,.int .i64 0,.string ⟨#[]⟩,.int .i64 0,.int .u64 0,.int .i64 0,.int .i64 0] 84))
 have HB:=hid hB1
 have HZ:=hid (show w.heap.size<(w.alloc (.cells #[.int .i64 0,.int .i64 0,.string ⟨#[]⟩,.int .i64 0,.int .u64 0,.int .i64 0,.int .i64 0] 84)).heap.size by rw[World.size_alloc];omega)
 have e1:dI.wrap (2+(a:Int))=((2+a:Nat):Int):=by rw[dQ];omega
 have e2:dI.wrap (((2+a:Nat):Int)+(b:Int))=((2+a+b:Nat):Int):=by rw[dQ];omega
 clear hB1
 subst hn
 generalize 2+a+b=n at *
 generalize 2+a=m at *
 by_cases c:y=0
 ·subst c
  rw[if_pos rfl]
  unfold pv kN
  go_enter func77,ntmps77
  go_wp2_with (first|((with_reducible (apply Calls.mono;first|exact c1 _|exact cr _|exact cw _));rintro e w' ⟨rfl,rfl⟩)|(go_at_call 109;(with_reducible refine cp.mono ?_);rintro e w2 ⟨rfl,hB2⟩;(have hr:=aF FR.out hB2);(have ec:=aA hr);(have ef:=aC hr);(have HR:=hid hr);(replace HB:=hid (HB.out.trans (hB2.mono HB.out.size)));clear hr hB2 cp FR))
  refine bodyPost_ret (iT rfl _ _ w.heap.size _ _ _ _ _ _ _ (0,0) rfl (mX HR.out _ _ _ _ _ _ _)) rfl ?_
  exact⟨rfl,kK HB.out (aH _) _ _ _ _ _ _ _⟩
 ·rw[if_neg c]
  unfold pv gG
  go_enter func77,ntmps77
  go_wp2_with (first|((with_reducible (apply Calls.mono;first|exact c1 _|exact cr _|exact cw _));rintro e w' ⟨rfl,rfl⟩)|(go_at_call 109;(with_reducible refine cp.mono ?_);rintro e w2 ⟨rfl,hB2⟩;(have hr:=aF FR.out hB2);(have ec:=aA hr);(have ef:=aC hr);(have HR:=hid hr);(replace HB:=hid (HB.out.trans (hB2.mono HB.out.size)));clear hr hB2 cp FR))
  refine bodyPost_ret (iT rfl _ _ w.heap.size _ _ _ _ _ _ _ (0,0) rfl (mX HR.out _ _ _ _ _ _ _)) rfl ?_
  exact⟨rfl,kK HB.out (aH _) _ _ _ _ _ _ _⟩
theorem O5(l:List UInt8):mO l<=l.length:=by
 unfold mO
 split
 ·rename_i d;have:=gZ bI d;simp;omega
 ·rename_i d;have:=gZ bI d;simp;omega
 ·rename_i d _ _;have:=gZ bI d;simp;omega
 ·omega
theorem Ap(l:List UInt8)(h:2<=l.length):2+runN iN (l.drop 2)<=l.length/\sQ l<=l.length:=by
 have h1:=gZ iN (l.drop 2)
 have h2:=O5 (l.drop (2+runN iN (l.drop 2)))
 rw[eU] at h1 h2
 unfold sQ
 omega
theorem Cr(s:ByteArray)(hs:s.size<=1000000)(w:World)(ht:Tabs w):Calls prog 77 #[.string s] w λe w'=>e=.returned (pv (fC s.data.toList))/\Below w.heap.size w w':=by
 have c1:=λw=>jS s ⟨#[48,120]⟩ w
 have e:aL s.data.toList (⟨#[48,120]⟩:ByteArray).data.toList=decide (s.data.toList.take 2=wu):=aAO _
 rw[e] at c1
 unfold fC
 by_cases c:s.data.toList.take 2=wu
 ·rw[if_pos c]
  rw[decide_eq_true c] at c1
  have sl:=size_list s
  have h2:2<=s.data.toList.length:=by
   have:=congrArg List.length c
   rw[List.length_take] at this
   have e2:wu.length=2:=rfl
   omega
  obtain⟨d1,d2⟩:=Ap _ h2
  have ld:∀k,(⟨(s.data.toList.drop k).toArray⟩:ByteArray).size<=1000000:=λk=>by
   show (s.data.toList.drop k).length<=_
   rw[eU];omega
  refine DU s ⟨(s.data.toList.drop 2).toArray⟩ ⟨(s.data.toList.drop (2+runN iN (s.data.toList.drop 2))).toArray⟩ (s.extract 0 (sQ s.data.toList)) (runN iN (s.data.toList.drop 2)) (mO (s.data.toList.drop (2+runN iN (s.data.toList.drop 2)))) (sQ s.data.toList) _ _ hs (by omega) (by omega) (by unfold sQ at d2;omega) (iW s 2) (iW s _) rfl rfl c1 (λw=>?_) (λw=>?_) w ?_
  ·have:=yO ⟨(s.data.toList.drop 2).toArray⟩ (bY (ld 2) (by decide)) 107 iN yB Ah w
   simpa using this
  ·have:=C8 ⟨(s.data.toList.drop (2+runN iN (s.data.toList.drop 2))).toArray⟩ (ld _) w
   simpa using this
  ·have el:(s.extract 0 (sQ s.data.toList)).data.toList=s.data.toList.take (sQ s.data.toList):=by rw[FP]
   rw[<- el]
   exact rU (s.extract 0 (sQ s.data.toList)) (bY (xE s _) (bY hs (by decide))) _ (ht.on _)
 ·rw[if_neg c]
  rw[decide_eq_false c] at c1
  clear e c hs ht
  unfold pv lJ
  go_enter func77,ntmps77
  go_wp2_with (go_at_call 106;(with_reducible refine(c1 _).mono ?_);rintro e w' ⟨rfl,rfl⟩)
  refine bodyPost_ret (iT rfl _ _ w.heap.size _ _ _ _ _ _ _ (0,0) rfl (ay w _)) rfl ?_
  exact⟨rfl,(aY _ w).alloc (aH _) _⟩
theorem tkT:(prog.underlying 36).map (λd=>match d with | .struct _ | .array _ _=>true|_=>false)=some true:=by kernel_rfl
theorem Ud:(prog.info? 36).map (·.size)=some 5:=by kernel_rfl
theorem lI{fn:Func}{p:Tmp}(h:fn.results = #[.cell p 36])(tmps:Array Value)(w:World)(gb:Nat)(v0 v1 v2 v3 v4:Value)(fr:Nat × Nat)(hp:tmps.getD p undef=.pointer (some ⟨gb,0,none⟩))(hg:w.heap[gb]? = some (.cells #[v0,v1,v2,v3,v4] 36 fr)):(results fn tmps).run prog w=.ok (.agg #[v0,v1,v2,v3,v4]) w:=by
 have ht:=tkT
 cases hu:prog.underlying 36 with
 | none=>rw[hu] at ht;cases ht
 | some d=>
  rw[hu] at ht
  simp only[Option.map_some,Option.some.injEq] at ht
  refine results_cell_row h tmps w gb _ _ fr d hp hg hu ?_ (by rw[Ud];rfl)
  cases d <;> first|rfl|exact ht
theorem gK{w:World}{gb:Nat}{z0 z1 z2 z3 z4:Value}{t:TypeId}(hg:w.heap[gb]? = some (.cells #[z0,z1,z2,z3,z4] t (0,0)))(v0 v1 v2 v3 v4:Value):(((((w.setCell ⟨gb,0,none⟩ v0).setCell ⟨gb,1,none⟩ v1).setCell ⟨gb,2,none⟩ v2).setCell ⟨gb,3,none⟩ v3).setCell ⟨gb,4,none⟩ v4).heap[gb]? = some (.cells #[v0,v1,v2,v3,v4] t (0,0)):=by
 have h0:w.heap[gb]? = some (.cells [z0,z1,z2,z3,z4].toArray t (0,0)):=hg
 exact aM (aM (aM (aM (aM h0 0 v0) 1 v1) 2 v2) 3 v3) 4 v4
theorem jT{w a:World}{gb B:Nat}(h:Below B a w)(hB:B<=gb)(v0 v1 v2 v3 v4:Value):Below B a (((((w.setCell ⟨gb,0,none⟩ v0).setCell ⟨gb,1,none⟩ v1).setCell ⟨gb,2,none⟩ v2).setCell ⟨gb,3,none⟩ v3).setCell ⟨gb,4,none⟩ v4):=
 ((((h.setCell (p:=⟨gb,0,none⟩) hB v0).setCell (p:=⟨gb,1,none⟩) hB v1).setCell (p:=⟨gb,2,none⟩) hB v2).setCell (p:=⟨gb,3,none⟩) hB v3).setCell (p:=⟨gb,4,none⟩) hB v4
def tv(t:Tk)(at':Int):Value:=.agg #[.int .i64 t.kind,.int .i64 at',.string t.text,.int .i64 t.int,.int .u64 t.bits]
theorem yj(s:ByteArray)(x:Int)(h:s=⟨#[105,110,102]⟩\/s=⟨#[110,97,110]⟩)(w:World)(cp:Calls prog 109 #[.string s] (w.alloc (.cells #[.int .i64 0,.int .i64 0,.string ⟨#[]⟩,.int .i64 0,.int .u64 0] 36)) λe w'=>e=.returned (.tuple #[.int .u64 x,.int .i64 0])/\Below (w.alloc (.cells #[.int .i64 0,.int .i64 0,.string ⟨#[]⟩,.int .i64 0,.int .u64 0] 36)).heap.size (w.alloc (.cells #[.int .i64 0,.int .i64 0,.string ⟨#[]⟩,.int .i64 0,.int .u64 0] 36)) w') :
  Calls prog 104 #[.string s] w λe w'=>e=.returned (tv ⟨5,⟨#[]⟩,0,x⟩ 0)/\Below w.heap.size w w':=by
 have hB1:Below w.heap.size w (w.alloc (.cells #[.int .i64 0,.int .i64 0,.string ⟨#[]⟩,.int .i64 0,.int .u64 0] 36)):=(aY _ w).alloc (aH _) _
 have FR:=hid (ay w (.cells #[.int .i64 0,.int .i64 0,.string ⟨#[]⟩,.int .i64 0,.int .u64 0] 36))
 have HB:=hid hB1
 clear hB1
 unfold tv
 rcases h with rfl|rfl
 all_goals (
  go_enter func104,ntmps104
  go_wp2_with (go_at_call 109;(with_reducible refine cp.mono ?_);rintro e w2 ⟨rfl,hB2⟩;(have hr:=aF FR.out hB2);(have ec:=aA hr);(have ef:=aC hr);(have HR:=hid hr);(replace HB:=hid (HB.out.trans (hB2.mono HB.out.size)));clear hr hB2 cp FR)
  refine bodyPost_ret (lI rfl _ _ w.heap.size _ _ _ _ _ (0,0) rfl (gK HR.out _ _ _ _ _)) rfl ?_
  exact⟨rfl,jT HB.out (aH _) _ _ _ _ _⟩)
theorem Ea(s:ByteArray)(n0:(s.toList==[105,110,102])=false)(n1:(s.toList==[110,97,110])=false)(n2:(s.toList==[102,110])=false)(n3:(s.toList==[108,101,116])=false)(n4:(s.toList==[105,102])=false)(n5:(s.toList==[101,108,115,101])=false)(n6:(s.toList==[119,104,105,108,101])=false)(n7:(s.toList==[102,111,114])=false)(n8:(s.toList==[105,110])=false)(n9:(s.toList==[98,114,101,97,107])=false)(n10:(s.toList==[99,111,110,116,105,110,117,101])=false)(n11:(s.toList==[114,101,116,117,114,110])=false)(n12:(s.toList==[111,117,116])=false)(n13:(s.toList==[97,110,100])=false)(n14:(s.toList==[111,114])=false)(n15:(s.toList==[110,111,116])=false)(n16:(s.toList==[116,114,117,101])=false)(n17:(s.toList==[102,97,108,115,101])=false)(n18:(s.toList==[110,105,108])=false)(w:World):Calls prog 104 #[.string s] w λe w'=>e=.returned (tv ⟨1,s,0,0⟩ 0)/\Below w.heap.size w w':=by
 unfold tv
 go_enter func104,ntmps104
 go_wp2
 refine bodyPost_ret (lI rfl _ _ w.heap.size _ _ _ _ _ (0,0) rfl (ay w _)) rfl ?_
 exact⟨rfl,(aY _ w).alloc (aH _) _⟩
theorem E9(s:ByteArray)(h:s=⟨#[102,110]⟩\/s=⟨#[108,101,116]⟩\/s=⟨#[105,102]⟩\/s=⟨#[101,108,115,101]⟩\/s=⟨#[119,104,105,108,101]⟩\/s=⟨#[102,111,114]⟩\/s=⟨#[105,110]⟩\/s=⟨#[98,114,101,97,107]⟩\/s=⟨#[99,111,110,116,105,110,117,101]⟩\/s=⟨#[114,101,116,117,114,110]⟩\/s=⟨#[111,117,116]⟩\/s=⟨#[97,110,100]⟩\/s=⟨#[111,114]⟩\/s=⟨#[110,111,116]⟩\/s=⟨#[116,114,117,101]⟩\/s=⟨#[102,97,108,115,101]⟩\/s=⟨#[110,105,108]⟩)(w:World):Calls prog 104 #[.string s] w λe w'=>e=.returned (tv ⟨2,s,0,0⟩ 0)/\Below w.heap.size w w':=by
 unfold tv
 rcases h with rfl|rfl|rfl|rfl|rfl|rfl|rfl|rfl|rfl|rfl|rfl|rfl|rfl|rfl|rfl|rfl|rfl
 all_goals (
  go_enter func104,ntmps104
  go_wp2
  refine bodyPost_ret (lI rfl _ _ w.heap.size _ _ _ _ _ (0,0) rfl (ay w _)) rfl ?_
  exact⟨rfl,(aY _ w).alloc (aH _) _⟩)
theorem lQ(s:ByteArray):bytesOf s.data.toList=s:=by unfold bytesOf;simp
theorem d9{s:ByteArray}{l:List UInt8}(h:s.data.toList=l):s=⟨l.toArray⟩:=by rw[<- h]
theorem Eh(s:ByteArray)(hs:s.size<=maxLen)(w:World)(ht:Tabs w):Calls prog 104 #[.string s] w λe w'=>e=.returned (tv (kD s.data.toList) 0)/\Below w.heap.size w w':=by
 have cp:=rU s hs (w.alloc (.cells #[.int .i64 0,.int .i64 0,.string ⟨#[]⟩,.int .i64 0,.int .u64 0] 36)) (ht.on _)
 unfold kD
 by_cases c1:s.data.toList=nI
 ·rw[if_pos c1]
  rw[c1] at cp
  exact yj s _ (.inl (d9 c1)) w cp
 ·rw[if_neg c1]
  by_cases c2:s.data.toList=uy
  ·rw[if_pos c2]
   rw[c2] at cp
   exact yj s _ (.inr (d9 c2)) w cp
  ·rw[if_neg c2,lQ]
   by_cases c3:s.data.toList ∈ words
   ·rw[if_pos c3]
    refine E9 s ?_ w
    unfold words at c3
    simp only[List.mem_cons,List.not_mem_nil,or_false] at c3
    rcases c3 with c|c|c|c|c|c|c|c|c|c|c|c|c|c|c|c|c
    ·exact .inl (d9 c)
    ·exact .inr (.inl (d9 c))
    ·exact .inr (.inr (.inl (d9 c)))
    ·exact .inr (.inr (.inr (.inl (d9 c))))
    ·exact .inr (.inr (.inr (.inr (.inl (d9 c)))))
    ·exact .inr (.inr (.inr (.inr (.inr (.inl (d9 c))))))
    ·exact .inr (.inr (.inr (.inr (.inr (.inr (.inl (d9 c)))))))
    ·exact .inr (.inr (.inr (.inr (.inr (.inr (.inr (.inl (d9 c))))))))
    ·exact .inr (.inr (.inr (.inr (.inr (.inr (.inr (.inr (.inl (d9 c)))))))))
    ·exact .inr (.inr (.inr (.inr (.inr (.inr (.inr (.inr (.inr (.inl (d9 c))))))))))
    ·exact .inr (.inr (.inr (.inr (.inr (.inr (.inr (.inr (.inr (.inr (.inl (d9 c)))))))))))
    ·exact .inr (.inr (.inr (.inr (.inr (.inr (.inr (.inr (.inr (.inr (.inr (.inl (d9 c))))))))))))
    ·exact .inr (.inr (.inr (.inr (.inr (.inr (.inr (.inr (.inr (.inr (.inr (.inr (.inl (d9 c)))))))))))))
    ·exact .inr (.inr (.inr (.inr (.inr (.inr (.inr (.inr (.inr (.inr (.inr (.inr (.inr (.inl (d9 c))))))))))))))
    ·exact .inr (.inr (.inr (.inr (.inr (.inr (.inr (.inr (.inr (.inr (.inr (.inr (.inr (.inr (.inl (d9 c)))))))))))))))
    ·exact .inr (.inr (.inr (.inr (.inr (.inr (.inr (.inr (.inr (.inr (.inr (.inr (.inr (.inr (.inr (.inl (d9 c))))))))))))))))
    ·exact .inr (.inr (.inr (.inr (.inr (.inr (.inr (.inr (.inr (.inr (.inr (.inr (.inr (.inr (.inr (.inr (d9 c))))))))))))))))
   ·rw[if_neg c3]
    have ne:∀l:List UInt8,s.data.toList≠l->(s.toList==l)=false:=λl h=>by rw[toList_eq];simpa using h
    have nw:∀l,l ∈ words->(s.toList==l)=false:=λl hl=>ne l (λe=>c3 (e ▸ hl))
    exact Ea s (ne _ c1) (ne _ c2) (nw _ (by decide)) (nw _ (by decide)) (nw _ (by decide)) (nw _ (by decide)) (nw _ (by decide)) (nw _ (by decide)) (nw _ (by decide)) (nw _ (by decide)) (nw _ (by decide)) (nw _ (by decide)) (nw _ (by decide)) (nw _ (by decide)) (nw _ (by decide)) (nw _ (by decide)) (nw _ (by decide)) (nw _ (by decide)) (nw _ (by decide)) w
theorem PZ(s:ByteArray)(hs:s.size<=1000000)(w:World):Calls prog 105 #[.string s] w λe w'=>e=.returned (.string s)/\Below w.heap.size w w':=by
 have c:=Tryz.stringslite_Clone s w (by omega)
 clear hs
 go_enter func105,ntmps105
 go_wp2_with (go_at_call 138;(with_reducible refine c.mono ?_);rintro e w2 ⟨rfl,hB⟩)
 go_ret
 exact⟨rfl,hB⟩
theorem SI(s:ByteArray)(h0:0<s.size)(hs:s.size<=1000000)(w:World)(ht:Tabs w):Calls prog 76 #[.string s] w λe w'=>e=.returned (pv (nameP s.data.toList))/\Below w.heap.size w w':=by
 have hm:s.size<=maxLen:=bY hs (by decide)
 have cr:=λw=>yO s hm 102 dO JZ MI w
 have hn:=gZ dO s.data.toList
 rw[size_list] at hn
 have cd:=λw=>pz s[0] w
 have hh:QY bI s.data.toList=bI s[0]:=by
  have e:=get_at s 0 h0
  cases hl:s.data.toList with
  | nil=>rw[hl] at e;cases e
  | cons c r=>rw[hl] at e;injection e with e;rw[<- e];rfl
 unfold nameP
 rw[hh]
 by_cases c:runN dO s.data.toList=0
 ·rw[if_pos (.inl c)]
  rw[c] at cr
  clear c hn hh cd hs hm ht h0
  unfold pv lJ
  go_enter func76,ntmps76
  go_wp2_with (go_at_call 99;(with_reducible refine(cr _).mono ?_);rintro e w' ⟨rfl,rfl⟩)
  refine bodyPost_ret (iT rfl _ _ w.heap.size _ _ _ _ _ _ _ (0,0) rfl (ay w _)) rfl ?_;exact⟨rfl,(aY _ w).alloc (aH _) _⟩
 ·cases hd:bI s[0] with
  | true=>
   rw[if_pos (.inr rfl)]
   rw[hd] at cd
   generalize runN dO s.data.toList=n at *
   clear hh hn hs hm ht hd
   unfold pv lJ
   go_enter func76,ntmps76
   go_wp2_with ((with_reducible (apply Calls.mono;first|exact cr _|exact cd _));rintro e w' ⟨rfl,rfl⟩)
   refine bodyPost_ret (iT rfl _ _ w.heap.size _ _ _ _ _ _ _ (0,0) rfl (ay w _)) rfl ?_;exact⟨rfl,(aY _ w).alloc (aH _) _⟩
  | false=>
   rw[if_neg (by rintro(g|g);exact c g;cases g)]
   rw[hd] at cd
   by_cases c2:31<runN dO s.data.toList
   ·rw[if_pos c2]
    generalize runN dO s.data.toList=n at *
    have c3:(n:Int)>31:=by omega
    clear hh hs hm ht hd hn
    unfold pv gG
    go_enter func76,ntmps76
    go_wp2_with ((with_reducible (apply Calls.mono;first|exact cr _|exact cd _));rintro e w' ⟨rfl,rfl⟩)
    refine bodyPost_ret (iT rfl _ _ w.heap.size _ _ _ _ _ _ _ (0,0) rfl (ay w _)) rfl ?_;exact⟨rfl,(aY _ w).alloc (aH _) _⟩
   ·rw[if_neg c2]
    have FR:=hid (ay w (.cells #[.int .i64 0,.int .i64 0,.string ⟨#[]⟩,.int .i64 0,.int .u64 0,.int .i64 0,.int .i64 0] 84))
    have HB:=hid (show Below w.heap.size w (w.alloc (.cells #[.int .i64 0,.int .i64 0,.string ⟨#[]⟩,.int .i64 0,.int .u64 0,.int .i64 0,.int .i64 0] 84)) from(aY _ w).alloc (aH _) _)
    have el:(s.extract 0 (runN dO s.data.toList)).data.toList=s.data.toList.take (runN dO s.data.toList):=by rw[FP]
    have cs:=xE s (runN dO s.data.toList)
    have cc:=λw=>PZ (s.extract 0 (runN dO s.data.toList)) (bY cs hs) w
    have cN:∀w',Below w.heap.size w w'->Calls prog 104 #[.string (s.extract 0 (runN dO s.data.toList))] w' λe w2=>e=.returned (tv (kD (s.data.toList.take (runN dO s.data.toList))) 0)/\Below w'.heap.size w' w2:=λw' hB=>by
     have:=Eh (s.extract 0 (runN dO s.data.toList)) (bY cs hm) w' (ht.below hB)
     rw[el] at this
     exact this
    have CN:=hid cN
    obtain⟨t,hxt⟩:∃t,s.extract 0 (runN dO s.data.toList)=t:=⟨_,rfl⟩
    rw[hxt] at cc CN
    clear el cs
    generalize kD (s.data.toList.take (runN dO s.data.toList))=T at *
    generalize runN dO s.data.toList=n at *
    have c3:¬ (n:Int)>31:=by omega
    clear hh hs hm ht hd cN
    unfold pv kN
    unfold tv at CN
    go_enter func76,ntmps76
    go_wp2_with (first|((with_reducible (apply Calls.mono;first|exact cr _|exact cd _));rintro e w' ⟨rfl,rfl⟩)|(go_at_call 105;(with_reducible refine(cc _).mono ?_);rintro e w2 ⟨rfl,hB2⟩;(have hr:=aF FR.out hB2);(have HR:=hid hr);(replace HB:=hid (HB.out.trans (hB2.mono HB.out.size)));(have cN:=CN.out w2 HB.out);clear hr hB2 FR CN)|(go_at_call 104;(with_reducible refine cN.mono ?_);rintro e w3 ⟨rfl,hB3⟩;(have hr:=aF HR.out hB3);(have ec:=aA hr);(have ef:=aC hr);(replace HR:=hid hr);(replace HB:=hid (HB.out.trans (hB3.mono HB.out.size)));clear hr hB3 cN))
    refine bodyPost_ret (iT rfl _ _ w.heap.size _ _ _ _ _ _ _ (0,0) rfl (mX HR.out _ _ _ _ _ _ _)) rfl ?_
    exact⟨rfl,kK HB.out (aH _) _ _ _ _ _ _ _⟩
end Go.Proofs.YtgchnkgolclmgaaGreatDoor.W
