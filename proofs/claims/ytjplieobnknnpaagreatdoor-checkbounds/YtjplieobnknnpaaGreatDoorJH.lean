import Derived.Test.YtjplieobnknnpaaGreatDoorJC
import Derived.Test.YtjplieobnknnpaaGreatDoorJF
import Derived.Test.YtjplieobnknnpaaGreatDoorJG
import Derived.Laws.Rows
import Derived.Laws.OwnMore
open List renaming length_drop → z8z
open Nat renaming le_refl → z0z, le_trans → z5z
open Go.World renaming alloc_heap_new → z3z
open Go.RowKit.Below renaming refl → z2z
open Bool renaming eq_iff_iff → z4z
open Go.IntKind renaming i64 → z6z, wrap_i64 → z7z
open Go.Lib renaming hasPrefix → z1z
open Go.Proofs.Tryz
set_option maxRecDepth 1000000
set_option maxHeartbeats 8000000
namespace Go.Proofs.YtjplieobnknnpaaGreatDoor.W
open Go.ChangeShapes Go.WideShapes Go.RowKit Go.Shelf
set_option linter.unusedVariables false
theorem Mg(c:UInt8)(n:Nat)(h:n<256):(c==n.toUInt8)=decide (c.toNat=n):=by
 rw[z4z,beq_iff_eq,decide_eq_true_eq]
 constructor
 ·rintro rfl;simp;omega
 ·intro e;rw[<- e];simp
theorem yV(c:UInt8)(w:World):Calls prog 122 #[.int .u8 c.toNat] w λe w'=>e=.returned (.bool (FE c))/\w'=w:=by
 have e1:FE c=(decide (c.toNat=32)||decide (c.toNat=9)||decide (c.toNat=10)):=by
  unfold FE
  rw[<- Mg c 32 (by decide),<- Mg c 9 (by decide),<- Mg c 10 (by decide)];rfl
 rw[e1]
 go_enter func122,ntmps122
 go_wp2
 all_goals (go_ret;refine⟨Kg ?_,rfl⟩;rw[z4z];simp;omega)
theorem Qu(c:UInt8)(w:World):Calls prog 124 #[.int .u8 c.toNat] w λe w'=>e=.returned (.bool (AV c))/\w'=w:=by
 go_enter func124,ntmps124
 go_wp2
 all_goals (go_ret;refine⟨Kg ?_,rfl⟩;simp only[AV];rw[z4z];simp only[decide_eq_true_eq,Bool.false_eq_true,false_iff];omega)
theorem qK(c:UInt8)(w:World):Calls prog 121 #[.int .u8 c.toNat] w λe w'=>e=.returned (.bool (DW c))/\w'=w:=by
 have e1:DW c = !decide (c.toNat=10):=by
  unfold DW bne
  rw[<- Mg c 10 (by decide)];rfl
 rw[e1]
 go_enter func121,ntmps121
 go_wp2
 all_goals (go_ret;refine⟨Kg ?_,rfl⟩;first|rfl|(rw[z4z];simp;done)|(rw[z4z];simp;omega))
theorem jA(c:UInt8)(w:World):Calls prog 123 #[.int .u8 c.toNat] w λe w'=>e=.returned (.bool (Az c))/\w'=w:=by
 have e1:Az c=(decide (97<=c.toNat/\c.toNat<=122)||AV c||decide (c.toNat=95)):=by
  unfold Az
  rw[<- Mg c 95 (by decide)];rfl
 rw[e1]
 cases hd:AV c
 all_goals (
  have cd:=Qu c
  rw[hd] at cd
  clear e1 hd
  go_enter func123,ntmps123
  go_wp2_with (go_at_call 124;(with_reducible refine(cd _).mono ?_);rintro e w' ⟨rfl,rfl⟩)
  all_goals (go_ret;refine⟨Kg ?_,rfl⟩;first|rfl|(rw[z4z];simp;done)|(rw[z4z];simp;omega)))
theorem pE(c:UInt8)(w:World):Calls prog 128 #[.int .u8 c.toNat] w λe w'=>e=.returned (.bool (Dr c))/\w'=w:=by
 have e1:Dr c=(decide (c.toNat=46)||BA c):=by
  unfold Dr
  rw[<- Mg c 46 (by decide)];rfl
 have e2:BA c=decide (Aw c≥0):=rfl
 rw[e1,e2]
 clear e1 e2
 have ci:=GY c
 generalize Aw c=v at *
 go_enter func128,ntmps128
 go_wp2_with (go_at_call 162;(with_reducible refine(ci _).mono ?_);rintro e w' ⟨rfl,rfl⟩)
 all_goals (go_ret;refine⟨Kg ?_,rfl⟩;first|rfl|(rw[z4z];simp;done)|(rw[z4z];simp;omega))
theorem get_at(s:ByteArray)(k:Nat)(h:k<s.size):s.data.toList[k]? = some s[k]:=by
 rw[Array.getElem?_toList,Array.getElem?_eq_getElem h];rfl
theorem MV(s:ByteArray)(hs:s.size<=maxLen)(f:Nat)(p:UInt8->Bool)(eg:∀args w,(callFunc f args).run prog w=.ok (.enter f args) w)(cp:∀ (c:UInt8) (w:World),Calls prog f #[.int .u8 c.toNat] w λe w'=>e=.returned (.bool (p c))/\w'=w)(w:World) :
  Calls prog 120 #[.string s,.func (.func f) #[] #[]] w λe w'=>e=.returned (.int .i64 (runN p s.data.toList))/\w'=w:=by
 unfold maxLen at hs
 have sl:=Ao s
 go_enter func120,ntmps120
 go_wp2_with fail
 go_loop [8] (λi=>∃k:Nat,k<=s.size/\i=.int .i64 k/\(s.data.toList.take k).all p=true) (λi=>s.size-(intOf i).toNat)
 case atStart=>exact⟨0,Nat.zero_le _,rfl,rfl⟩
 case round=>
  obtain⟨k,hk,rfl,ha⟩:=hrel
  by_cases hlt:k<s.size
  ·have cc:=cp s[k]
   cases hd:p s[k] with
   | true=>
    have R:=hid (show (s.data.toList.take (k+1)).all p=true by rw[Kh s k hlt,List.all_append,ha];simp[hd])
    rw[hd] at cc
    clear ha hd
    go_wp2_with (go_at_fn f;(with_reducible refine(cc _).mono ?_);rintro e w' ⟨rfl,rfl⟩)
    go_round
    case rel=>exact⟨k+1,hlt,by go_num,R.out⟩
    case measure=>simp[intOf];omega
   | false=>
    have R:=hid (YR p s.data.toList k ha (by omega) (λc hc=>by rw[get_at s k hlt] at hc;injection hc with hc;rw[<- hc];exact hd))
    rw[hd] at cc
    clear ha hd
    go_wp2_with (go_at_fn f;(with_reducible refine(cc _).mono ?_);rintro e w' ⟨rfl,rfl⟩)
    go_ret
    exact⟨by rw[R.out];rfl,rfl⟩
  ·have R:=hid (YR p s.data.toList k ha (by omega) (λc hc=>by rw[List.getElem?_eq_none (by omega)] at hc;cases hc))
   have hk2:k=s.size:=by omega
   clear ha
   subst hk2
   go_wp2_with fail
   go_ret
   exact⟨by rw[R.out];rfl,rfl⟩
theorem pcT:(prog.underlying 105).map (λd=>match d with | .struct _ | .array _ _=>true|_=>false)=some true:=by kernel_rfl
theorem qJ:(prog.info? 105).map (·.size)=some 7:=by kernel_rfl
theorem FP{fn:Func}{p:Tmp}(h:fn.results = #[.cell p 105])(tmps:Array Value)(w:World)(gb:Nat)(v0 v1 v2 v3 v4 v5 v6:Value)(fr:Nat × Nat)(hp:tmps.getD p undef=.pointer (some ⟨gb,0,none⟩))(hg:w.heap[gb]? = some (.cells #[v0,v1,v2,v3,v4,v5,v6] 105 fr)):(results fn tmps).run prog w=.ok (.agg #[v0,v1,v2,v3,v4,v5,v6]) w:=by
 have ht:=pcT
 cases hu:prog.underlying 105 with
 | none=>rw[hu] at ht;cases ht
 | some d=>
  rw[hu] at ht
  simp only[Option.map_some,Option.some.injEq] at ht
  refine results_cell_row h tmps w gb _ _ fr d hp hg hu ?_ (by rw[qJ];rfl)
  cases d <;> first|rfl|exact ht
theorem Bu{W:World}{b:Nat}{c:List Value}{t:TypeId}(hb:W.heap[b]? = some (.cells c.toArray t (0,0)))(j:Nat)(u:Value):(W.setCell ⟨b,j,none⟩ u).heap[b]? = some (.cells (c.set j u).toArray t (0,0)):=by
 simp only[World.setCell,Array.getElem?_modify]
 rw[hb]
 simp
theorem Oo{w:World}{gb:Nat}{z0 z1 z2 z3 z4 z5 z6:Value}{t:TypeId}(hg:w.heap[gb]? = some (.cells #[z0,z1,z2,z3,z4,z5,z6] t (0,0)))(v0 v1 v2 v3 v4 v5 v6:Value):(((((((w.setCell ⟨gb,0,none⟩ v0).setCell ⟨gb,1,none⟩ v1).setCell ⟨gb,2,none⟩ v2).setCell ⟨gb,3,none⟩ v3).setCell ⟨gb,4,none⟩ v4).setCell ⟨gb,5,none⟩ v5).setCell ⟨gb,6,none⟩ v6).heap[gb]? = some (.cells #[v0,v1,v2,v3,v4,v5,v6] t (0,0)):=by
 have h0:w.heap[gb]? = some (.cells [z0,z1,z2,z3,z4,z5,z6].toArray t (0,0)):=hg
 have h1:=Bu h0 0 v0
 have h2:=Bu h1 1 v1
 have h3:=Bu h2 2 v2
 have h4:=Bu h3 3 v3
 have h5:=Bu h4 4 v4
 have h6:=Bu h5 5 v5
 have h7:=Bu h6 6 v6
 exact h7
theorem NW{w a:World}{gb B:Nat}(h:Below B a w)(hB:B<=gb)(v0 v1 v2 v3 v4 v5 v6:Value):Below B a (((((((w.setCell ⟨gb,0,none⟩ v0).setCell ⟨gb,1,none⟩ v1).setCell ⟨gb,2,none⟩ v2).setCell ⟨gb,3,none⟩ v3).setCell ⟨gb,4,none⟩ v4).setCell ⟨gb,5,none⟩ v5).setCell ⟨gb,6,none⟩ v6):=
 ((((((h.setCell (p:=⟨gb,0,none⟩) hB v0).setCell (p:=⟨gb,1,none⟩) hB v1).setCell (p:=⟨gb,2,none⟩) hB v2).setCell (p:=⟨gb,3,none⟩) hB v3).setCell (p:=⟨gb,4,none⟩) hB v4).setCell (p:=⟨gb,5,none⟩) hB v5).setCell (p:=⟨gb,6,none⟩) hB v6
def pv(p:Pc):Value:=.agg #[.int .i64 p.t.kind,.int .i64 0,.string p.t.text,.int .i64 p.t.int,.int .u64 p.t.bits,.int .i64 (p.size:Nat),.int .i64 p.code]
theorem jB:∀args w,(callFunc 121 args).run prog w=.ok (.enter 121 args) w:=enters_of func121 (by kernel_rfl) rfl
theorem ABi:∀args w,(callFunc 122 args).run prog w=.ok (.enter 122 args) w:=enters_of func122 (by kernel_rfl) rfl
theorem kX:∀args w,(callFunc 123 args).run prog w=.ok (.enter 123 args) w:=enters_of func123 (by kernel_rfl) rfl
theorem dI:∀args w,(callFunc 124 args).run prog w=.ok (.enter 124 args) w:=enters_of func124 (by kernel_rfl) rfl
theorem ACW:∀args w,(callFunc 128 args).run prog w=.ok (.enter 128 args) w:=enters_of func128 (by kernel_rfl) rfl
theorem RX(s:ByteArray)(h:0<s.size)(n:Nat)(hn:n<256):s.data.toList.head? = some n.toUInt8↔s[0].toNat=n:=by
 have e:s.data.toList.head? = some s[0]:=by rw[List.head?_eq_getElem?,get_at s 0 h]
 rw[e]
 constructor
 ·intro e;injection e with e;rw[e];simp;omega
 ·intro e;rw[<- e];simp
theorem qV(s:ByteArray)(h0:0<s.size)(hs:s.size<=maxLen)(w:World):Calls prog 88 #[.string s] w λe w'=>e=.returned (pv (Eb s.data.toList))/\Below w.heap.size w w':=by
 by_cases c:s[0].toNat=35
 ·have e:Ho s.data.toList=runN DW s.data.toList:=if_pos ((RX s h0 35 (by decide)).2 c)
  have cr:=λw=>MV s hs 121 DW jB qK w
  unfold pv Eb
  rw[e]
  generalize runN DW s.data.toList=n at *
  clear e hs
  go_enter func88,ntmps88
  go_wp2_with (go_at_call 120;(with_reducible refine(cr _).mono ?_);rintro e w' ⟨rfl,rfl⟩)
  refine bodyPost_ret (FP rfl _ _ w.heap.size _ _ _ _ _ _ _ (0,0) rfl (z3z w _)) rfl ?_;exact⟨rfl,(z2z _ w).alloc (z0z _) _⟩
 ·have e:Ho s.data.toList=runN FE s.data.toList:=if_neg (λg=>c ((RX s h0 35 (by decide)).1 g))
  have cr:=λw=>MV s hs 122 FE ABi yV w
  unfold pv Eb
  rw[e]
  generalize runN FE s.data.toList=n at *
  clear e hs
  go_enter func88,ntmps88
  go_wp2_with (go_at_call 120;(with_reducible refine(cr _).mono ?_);rintro e w' ⟨rfl,rfl⟩)
  refine bodyPost_ret (FP rfl _ _ w.heap.size _ _ _ _ _ _ _ (0,0) rfl (z3z w _)) rfl ?_;exact⟨rfl,(z2z _ w).alloc (z0z _) _⟩
theorem VR(s:ByteArray)(k:Nat):s.extract 0 k=⟨(s.data.toList.take k).toArray⟩:=by
 obtain⟨⟨l⟩⟩:=s
 rw[ByteArray.extract_mk]
 simp
theorem UM(s:ByteArray)(k:Nat):(s.extract 0 k).size<=s.size:=by simp;omega
theorem AAM(s:ByteArray)(hs:s.size<=maxLen)(w:World):Calls prog 91 #[.string s] w λe w'=>e=.returned (pv (Cr s.data.toList))/\Below w.heap.size w w':=by
 have cr:=λw=>MV s hs 124 AV dI Qu w
 have hn:=GK AV s.data.toList
 rw[Ao] at hn
 have cp:=λw=>gQ (s.extract 0 (runN AV s.data.toList)) (z5z (UM s _) hs) w
 have el:(s.extract 0 (runN AV s.data.toList)).data.toList=s.data.toList.take (runN AV s.data.toList):=by rw[VR]
 rw[el] at cp
 unfold Cr
 by_cases c:runN AV s.data.toList=0
 ·rw[if_pos c]
  rw[c] at cr
  clear cp hn el c hs
  unfold pv Cg
  go_enter func91,ntmps91
  go_wp2_with (go_at_call 120;(with_reducible refine(cr _).mono ?_);rintro e w' ⟨rfl,rfl⟩)
  refine bodyPost_ret (FP rfl _ _ w.heap.size _ _ _ _ _ _ _ (0,0) rfl (z3z w _)) rfl ?_;exact⟨rfl,(z2z _ w).alloc (z0z _) _⟩
 ·rw[if_neg c]
  generalize runN AV s.data.toList=n at *
  obtain⟨⟨v,e⟩,hve⟩:∃x,Dg (s.data.toList.take n)=x:=⟨_,rfl⟩
  rw[hve] at cp ⊢
  unfold maxLen at hs
  have hw0:z6z.wrap ((n:Nat):Int)=(n:Nat):=by rw[z7z];omega
  clear el hve
  by_cases c2:e=0
  ·subst c2
   show Calls _ _ _ _ λe w'=>e=.returned (pv (Aj ⟨4,⟨#[]⟩,v,0⟩ n))/\_
   unfold pv Aj
   go_enter func91,ntmps91
   go_wp2_with ((with_reducible (apply Calls.mono;first|exact cr _|exact cp _));rintro e w' ⟨rfl,rfl⟩)
   refine bodyPost_ret (FP rfl _ _ w.heap.size _ _ _ _ _ _ _ (0,0) rfl (z3z w _)) rfl ?_;exact⟨rfl,(z2z _ w).alloc (z0z _) _⟩
  ·rw[if_neg c2]
   unfold pv DF
   go_enter func91,ntmps91
   go_wp2_with ((with_reducible (apply Calls.mono;first|exact cr _|exact cp _));rintro e w' ⟨rfl,rfl⟩)
   refine bodyPost_ret (FP rfl _ _ w.heap.size _ _ _ _ _ _ _ (0,0) rfl (z3z w _)) rfl ?_;exact⟨rfl,(z2z _ w).alloc (z0z _) _⟩
theorem Mv(l:List UInt8)(c:UInt8):z1z l [c]=true↔∃q,l=c::q:=by
 unfold z1z
 cases l with
 | nil=>simp[List.isPrefixOf]
 | cons d q=>
  simp[List.isPrefixOf]
  constructor
  ·intro h;exact h.symm
  ·intro h;exact h.symm
theorem AAA(l:List UInt8)(h:z1z l [112]=false):Ca l=0:=by
 cases l with
 | nil=>rfl
 | cons c q=>
  have hc:c≠112:=by rintro rfl;rw[(Mv _ _).2 ⟨q,rfl⟩] at h;cases h
  unfold Ca
  split <;> first|rfl|(rename_i e;injection e with e1;exact absurd e1 hc)
theorem wJ(q:List UInt8)(h1:z1z q [43]=false)(h2:z1z q [45]=false):Ca (112::q)=1+runN AV q:=by
 cases q with
 | nil=>rfl
 | cons c d=>
  have c1:c≠43:=by rintro rfl;rw[(Mv _ _).2 ⟨d,rfl⟩] at h1;cases h1
  have c2:c≠45:=by rintro rfl;rw[(Mv _ _).2 ⟨d,rfl⟩] at h2;cases h2
  unfold Ca
  split
  ·rename_i e;injection e with _ e;injection e with e;exact absurd e c1
  ·rename_i e;injection e with _ e;injection e with e;exact absurd e c2
  ·rename_i e;injection e with _ e;rw[e]
  ·rename_i e;exact absurd rfl (e _)
theorem drop_at(s:ByteArray)(k:Nat)(q:List UInt8)(h:s.data.toList.drop k=q):s.extract k s.size=⟨q.toArray⟩:=by rw[Iy,h]
theorem UF(s t u:ByteArray)(b2 b3:Bool)(n k:Nat)(h1:1<=s.size)(hs:s.size<=1000000)(ht:s.extract 1 s.size=t)(hu:s.extract k s.size=u)(hk:k=if (b2||b3)=true then 2 else 1)(hk2:k<=s.size)(hn:n<=s.size)
  (c1:∀w,Calls prog 127 #[.string s,.string ⟨#[112]⟩] w λe w'=>e=.returned (.bool true)/\w'=w) (c2:∀w,Calls prog 127 #[.string t,.string ⟨#[43]⟩] w λe w'=>e=.returned (.bool b2)/\w'=w) (c3:∀w,Calls prog 127 #[.string t,.string ⟨#[45]⟩] w λe w'=>e=.returned (.bool b3)/\w'=w)
  (cr:∀w,Calls prog 120 #[.string u,.func (.func 124) #[] #[]] w λe w'=>e=.returned (.int .i64 (n:Nat))/\w'=w) (w:World):Calls prog 129 #[.string s] w λe w'=>e=.returned (.int .i64 ((k+n:Nat):Int))/\w'=w:=by
 have R:=hid (show ((k+n:Nat):Int)=(k:Int)+n by omega)
 have e1:z6z.wrap (1+(n:Int))=1+(n:Int):=by rw[z7z];omega
 have e2:z6z.wrap (2+(n:Int))=2+(n:Int):=by rw[z7z];omega
 have g1:(1:Int)<=s.size:=by omega
 rw[R.out]
 cases b2 <;> cases b3 <;> simp only[Bool.or_false,Bool.or_true,Bool.false_eq_true,if_true,if_false] at hk <;> subst hk
 all_goals (
  first|(have g2:(2:Int)<=s.size:=by omega)|skip
  first|(have hut:t=u:=ht.symm.trans hu;subst hut;clear hu)|skip
  clear R hn h1
  go_enter func129,ntmps129
  go_wp2_with ((with_reducible (apply Calls.mono;first|exact c1 _|exact c2 _|exact c3 _|exact cr _));rintro e w' ⟨rfl,rfl⟩)
  go_ret
  exact⟨rfl,rfl⟩)
theorem ACE(s:ByteArray)(hs:s.size<=1000000)(w:World):Calls prog 129 #[.string s] w λe w'=>e=.returned (.int .i64 (Ca s.data.toList:Nat))/\w'=w:=by
 have sl:=Ao s
 have c1:=λw=>Ma s ⟨#[112]⟩ w
 cases hp:z1z s.data.toList [112] with
 | false=>
  rw[AAA _ hp]
  have e:z1z s.data.toList (⟨#[112]⟩:ByteArray).data.toList=false:=hp
  rw[e] at c1
  clear hp e sl hs
  go_enter func129,ntmps129
  go_wp2_with (go_at_call 127;(with_reducible refine(c1 _).mono ?_);rintro e w' ⟨rfl,rfl⟩)
  go_ret
  exact⟨rfl,rfl⟩
 | true=>
  have e:z1z s.data.toList (⟨#[112]⟩:ByteArray).data.toList=true:=hp
  rw[e] at c1
  obtain⟨q,hq⟩:=(Mv _ _).1 hp
  have t1:=drop_at s 1 q (by rw[hq];rfl)
  have z1:1<=s.size:=by rw[hq] at sl;simp at sl;omega
  have tl:(⟨q.toArray⟩:ByteArray).data.toList=q:=by simp
  have c2:=λw=>Ma ⟨q.toArray⟩ ⟨#[43]⟩ w
  have c3:=λw=>Ma ⟨q.toArray⟩ ⟨#[45]⟩ w
  rw[tl] at c2 c3
  have el:∀k,s.data.toList.drop k=(112::q).drop k:=λk=>by rw[hq]
  have lq:q.length+1=s.size:=by rw[hq] at sl;simpa using sl
  have fin:∀ (k:Nat) (d:List UInt8),(112::q).drop k=d->k<=s.size->∀w,Calls prog 120 #[.string ⟨d.toArray⟩,.func (.func 124) #[] #[]] w λe w'=>e=.returned (.int .i64 (runN AV d:Nat))/\w'=w:=λk d hd hk w=>by
   have hz:(⟨d.toArray⟩:ByteArray).size=d.length:=rfl
   have:d.length<=s.size:=by rw[<- hd,z8z];simp;omega
   have:=MV ⟨d.toArray⟩ (by rw[hz];unfold maxLen;omega) 124 AV dI Qu w
   simpa using this
  have hl:∀ (k:Nat) (d:List UInt8),(112::q).drop k=d->runN AV d<=s.size:=λk d hd=>by
   have h1:=GK AV d
   have h2:d.length<=s.size:=by rw[<- hd,z8z];simp;omega
   omega
  rw[hq]
  cases h2:z1z q [43] with
  | true=>
   obtain⟨d,hd⟩:=(Mv _ _).1 h2
   have e2:z1z q (⟨#[43]⟩:ByteArray).data.toList=true:=h2
   rw[e2] at c2
   have hpw:Ca (112::q)=2+runN AV d:=by rw[hd];rfl
   have hdr:(112::q).drop 2=d:=by rw[hd];rfl
   have hz:2<=s.size:=by rw[hd] at lq;simp at lq;omega
   rw[hpw]
   exact UF s ⟨q.toArray⟩ ⟨d.toArray⟩ true _ _ 2 z1 hs t1 (drop_at s 2 d (by rw[el,hdr])) rfl hz (hl 2 d hdr) c1 c2 c3 (fin 2 d hdr hz) w
  | false=>
   have e2:z1z q (⟨#[43]⟩:ByteArray).data.toList=false:=h2
   rw[e2] at c2
   cases h3:z1z q [45] with
   | true=>
    obtain⟨d,hd⟩:=(Mv _ _).1 h3
    have e3:z1z q (⟨#[45]⟩:ByteArray).data.toList=true:=h3
    rw[e3] at c3
    have hpw:Ca (112::q)=2+runN AV d:=by rw[hd];rfl
    have hdr:(112::q).drop 2=d:=by rw[hd];rfl
    have hz:2<=s.size:=by rw[hd] at lq;simp at lq;omega
    rw[hpw]
    exact UF s ⟨q.toArray⟩ ⟨d.toArray⟩ false true _ 2 z1 hs t1 (drop_at s 2 d (by rw[el,hdr])) rfl hz (hl 2 d hdr) c1 c2 c3 (fin 2 d hdr hz) w
   | false=>
    have e3:z1z q (⟨#[45]⟩:ByteArray).data.toList=false:=h3
    rw[e3] at c3
    rw[wJ q h2 h3]
    exact UF s ⟨q.toArray⟩ ⟨q.toArray⟩ false false _ 1 z1 hs t1 t1 rfl z1 (hl 1 q rfl) c1 c2 c3 (fin 1 q rfl z1) w
theorem Tabs.on{w:World}(h:Tabs w)(o:Obj):Tabs (w.alloc o):=h.below ((z2z _ w).alloc (z0z _) o)
theorem wH(l:List UInt8):z1z l ER=decide (l.take 2=ER):=by
 unfold z1z ER
 rw[z4z,List.isPrefixOf_iff_prefix,decide_eq_true_eq]
 constructor
 ·rintro⟨r,rfl⟩;rfl
 ·intro h;exact⟨l.drop 2,by rw[<- h,List.take_append_drop]⟩
theorem AY{w w':World}{b:Nat}{o:Obj}(h:w.heap[b]? = some o)(hB:Below w.heap.size w w'):w'.heap[b]? = some o:=(hB.block b (Array.getElem?_eq_some_iff.1 h).1).trans h
theorem AO{w:World}{b:Nat}{l:Array Value}{t:TypeId}(h:w.heap[b]? = some (.cells l t (0,0))):∀j,w.cell? ⟨b,j,none⟩=l[j]?:=λj=>cell_of_row _ b j _ _ _ h
theorem Bj{w:World}{b:Nat}{l:Array Value}{t:TypeId}(h:w.heap[b]? = some (.cells l t (0,0))):∀j,w.frozen? ⟨b,j,none⟩=false:=λj=>by simp only[World.frozen?,h];simp
theorem tO(s t u v:ByteArray)(a b n:Nat)(x y:Int)(hs:s.size<=1000000)(h2:2<=s.size)(ha:2+a<=s.size)(hb:2+a+b<=s.size)(ht:s.extract 2 s.size=t)(hu:s.extract (2+a) s.size=u)(hv:s.extract 0 (2+a+b)=v)(hn:n=2+a+b)
  (c1:∀w,Calls prog 127 #[.string s,.string ⟨#[48,120]⟩] w λe w'=>e=.returned (.bool true)/\w'=w) (cr:∀w,Calls prog 120 #[.string t,.func (.func 128) #[] #[]] w λe w'=>e=.returned (.int .i64 (a:Nat))/\w'=w)
  (cw:∀w,Calls prog 129 #[.string u] w λe w'=>e=.returned (.int .i64 (b:Nat))/\w'=w) (w:World)
  (cp:Calls prog 130 #[.string v] (w.alloc (.cells #[.int .i64 0,.int .i64 0,.string ⟨#[]⟩,.int .i64 0,.int .u64 0,.int .i64 0,.int .i64 0] 105)) λe w'=>e=.returned (.tuple #[.int .u64 x,.int .i64 y])/\Below (w.alloc (.cells #[.int .i64 0,.int .i64 0,.string ⟨#[]⟩,.int .i64 0,.int .u64 0,.int .i64 0,.int .i64 0] 105)).heap.size (w.alloc (.cells #[.int .i64 0,.int .i64 0,.string ⟨#[]⟩,.int .i64 0,.int .u64 0,.int .i64 0,.int .i64 0] 105)) w') :
  Calls prog 90 #[.string s] w λe w'=>e=.returned (pv (if y=0 then Aj ⟨5,⟨#[]⟩,0,x⟩ n else DF n 62))/\Below w.heap.size w w':=by
 have hB1:Below w.heap.size w (w.alloc (.cells #[.int .i64 0,.int .i64 0,.string ⟨#[]⟩,.int .i64 0,.int .u64 0,.int .i64 0,.int .i64 0] 105)):=(z2z _ w).alloc (z0z _) _
 have FR:=hid (z3z w (.cells #[.int .i64 0,.int .i64 0,.string ⟨#[]⟩,.int .i64 0,.int .u64 0,.int .i64 0,.int .i64 0] 105))
 have HB:=hid hB1
 have HZ:=hid (show w.heap.size<(w.alloc (.cells #[.int .i64 0,.int .i64 0,.string ⟨#[]⟩,.int .i64 0,.int .u64 0,.int .i64 0,.int .i64 0] 105)).heap.size by rw[World.size_alloc];omega)
 have e1:z6z.wrap (2+(a:Int))=((2+a:Nat):Int):=by rw[z7z];omega
 have e2:z6z.wrap (((2+a:Nat):Int)+(b:Int))=((2+a+b:Nat):Int):=by rw[z7z];omega
 clear hB1
 subst hn
 generalize 2+a+b=n at *
 generalize 2+a=m at *
 by_cases c:y=0
 ·subst c
  rw[if_pos rfl]
  unfold pv Aj
  go_enter func90,ntmps90
  go_wp2_with (first|((with_reducible (apply Calls.mono;first|exact c1 _|exact cr _|exact cw _));rintro e w' ⟨rfl,rfl⟩)|(go_at_call 130;(with_reducible refine cp.mono ?_);rintro e w2 ⟨rfl,hB2⟩;(have hr:=AY FR.out hB2);(have ec:=AO hr);(have ef:=Bj hr);(have HR:=hid hr);(replace HB:=hid (HB.out.trans (hB2.mono HB.out.size)));clear hr hB2 cp FR))
  refine bodyPost_ret (FP rfl _ _ w.heap.size _ _ _ _ _ _ _ (0,0) rfl (Oo HR.out _ _ _ _ _ _ _)) rfl ?_
  exact⟨rfl,NW HB.out (z0z _) _ _ _ _ _ _ _⟩
 ·rw[if_neg c]
  unfold pv DF
  go_enter func90,ntmps90
  go_wp2_with (first|((with_reducible (apply Calls.mono;first|exact c1 _|exact cr _|exact cw _));rintro e w' ⟨rfl,rfl⟩)|(go_at_call 130;(with_reducible refine cp.mono ?_);rintro e w2 ⟨rfl,hB2⟩;(have hr:=AY FR.out hB2);(have ec:=AO hr);(have ef:=Bj hr);(have HR:=hid hr);(replace HB:=hid (HB.out.trans (hB2.mono HB.out.size)));clear hr hB2 cp FR))
  refine bodyPost_ret (FP rfl _ _ w.heap.size _ _ _ _ _ _ _ (0,0) rfl (Oo HR.out _ _ _ _ _ _ _)) rfl ?_
  exact⟨rfl,NW HB.out (z0z _) _ _ _ _ _ _ _⟩
theorem AAO(l:List UInt8):Ca l<=l.length:=by
 unfold Ca
 split
 ·rename_i d;have:=GK AV d;simp;omega
 ·rename_i d;have:=GK AV d;simp;omega
 ·rename_i d _ _;have:=GK AV d;simp;omega
 ·omega
theorem TG(l:List UInt8)(h:2<=l.length):2+runN Dr (l.drop 2)<=l.length/\DC l<=l.length:=by
 have h1:=GK Dr (l.drop 2)
 have h2:=AAO (l.drop (2+runN Dr (l.drop 2)))
 rw[z8z] at h1 h2
 unfold DC
 omega
theorem kK(s:ByteArray)(hs:s.size<=1000000)(w:World)(ht:Tabs w):Calls prog 90 #[.string s] w λe w'=>e=.returned (pv (Cj s.data.toList))/\Below w.heap.size w w':=by
 have c1:=λw=>Ma s ⟨#[48,120]⟩ w
 have e:z1z s.data.toList (⟨#[48,120]⟩:ByteArray).data.toList=decide (s.data.toList.take 2=ER):=wH _
 rw[e] at c1
 unfold Cj
 by_cases c:s.data.toList.take 2=ER
 ·rw[if_pos c]
  rw[decide_eq_true c] at c1
  have sl:=Ao s
  have h2:2<=s.data.toList.length:=by
   have:=congrArg List.length c
   rw[List.length_take] at this
   have e2:ER.length=2:=rfl
   omega
  obtain⟨d1,d2⟩:=TG _ h2
  have ld:∀k,(⟨(s.data.toList.drop k).toArray⟩:ByteArray).size<=1000000:=λk=>by
   show (s.data.toList.drop k).length<=_
   rw[z8z];omega
  refine tO s ⟨(s.data.toList.drop 2).toArray⟩ ⟨(s.data.toList.drop (2+runN Dr (s.data.toList.drop 2))).toArray⟩ (s.extract 0 (DC s.data.toList)) (runN Dr (s.data.toList.drop 2)) (Ca (s.data.toList.drop (2+runN Dr (s.data.toList.drop 2)))) (DC s.data.toList) _ _ hs (by omega) (by omega) (by unfold DC at d2;omega) (Iy s 2) (Iy s _) rfl rfl c1 (λw=>?_) (λw=>?_) w ?_
  ·have:=MV ⟨(s.data.toList.drop 2).toArray⟩ (z5z (ld 2) (by decide)) 128 Dr ACW pE w
   simpa using this
  ·have:=ACE ⟨(s.data.toList.drop (2+runN Dr (s.data.toList.drop 2))).toArray⟩ (ld _) w
   simpa using this
  ·have el:(s.extract 0 (DC s.data.toList)).data.toList=s.data.toList.take (DC s.data.toList):=by rw[VR]
   rw[<- el]
   exact Xg (s.extract 0 (DC s.data.toList)) (z5z (UM s _) (z5z hs (by decide))) _ (ht.on _)
 ·rw[if_neg c]
  rw[decide_eq_false c] at c1
  clear e c hs ht
  unfold pv Cg
  go_enter func90,ntmps90
  go_wp2_with (go_at_call 127;(with_reducible refine(c1 _).mono ?_);rintro e w' ⟨rfl,rfl⟩)
  refine bodyPost_ret (FP rfl _ _ w.heap.size _ _ _ _ _ _ _ (0,0) rfl (z3z w _)) rfl ?_
  exact⟨rfl,(z2z _ w).alloc (z0z _) _⟩
theorem tkT:(prog.underlying 71).map (λd=>match d with | .struct _ | .array _ _=>true|_=>false)=some true:=by kernel_rfl
theorem AAR:(prog.info? 71).map (·.size)=some 5:=by kernel_rfl
theorem Kc{fn:Func}{p:Tmp}(h:fn.results = #[.cell p 71])(tmps:Array Value)(w:World)(gb:Nat)(v0 v1 v2 v3 v4:Value)(fr:Nat × Nat)(hp:tmps.getD p undef=.pointer (some ⟨gb,0,none⟩))(hg:w.heap[gb]? = some (.cells #[v0,v1,v2,v3,v4] 71 fr)):(results fn tmps).run prog w=.ok (.agg #[v0,v1,v2,v3,v4]) w:=by
 have ht:=tkT
 cases hu:prog.underlying 71 with
 | none=>rw[hu] at ht;cases ht
 | some d=>
  rw[hu] at ht
  simp only[Option.map_some,Option.some.injEq] at ht
  refine results_cell_row h tmps w gb _ _ fr d hp hg hu ?_ (by rw[AAR];rfl)
  cases d <;> first|rfl|exact ht
theorem M8{w:World}{gb:Nat}{z0 z1 z2 z3 z4:Value}{t:TypeId}(hg:w.heap[gb]? = some (.cells #[z0,z1,z2,z3,z4] t (0,0)))(v0 v1 v2 v3 v4:Value):(((((w.setCell ⟨gb,0,none⟩ v0).setCell ⟨gb,1,none⟩ v1).setCell ⟨gb,2,none⟩ v2).setCell ⟨gb,3,none⟩ v3).setCell ⟨gb,4,none⟩ v4).heap[gb]? = some (.cells #[v0,v1,v2,v3,v4] t (0,0)):=by
 have h0:w.heap[gb]? = some (.cells [z0,z1,z2,z3,z4].toArray t (0,0)):=hg
 exact Bu (Bu (Bu (Bu (Bu h0 0 v0) 1 v1) 2 v2) 3 v3) 4 v4
theorem VI{w a:World}{gb B:Nat}(h:Below B a w)(hB:B<=gb)(v0 v1 v2 v3 v4:Value):Below B a (((((w.setCell ⟨gb,0,none⟩ v0).setCell ⟨gb,1,none⟩ v1).setCell ⟨gb,2,none⟩ v2).setCell ⟨gb,3,none⟩ v3).setCell ⟨gb,4,none⟩ v4):=
 ((((h.setCell (p:=⟨gb,0,none⟩) hB v0).setCell (p:=⟨gb,1,none⟩) hB v1).setCell (p:=⟨gb,2,none⟩) hB v2).setCell (p:=⟨gb,3,none⟩) hB v3).setCell (p:=⟨gb,4,none⟩) hB v4
def tv(t:Tk)(at':Int):Value:=.agg #[.int .i64 t.kind,.int .i64 at',.string t.text,.int .i64 t.int,.int .u64 t.bits]
theorem V9(s:ByteArray)(x:Int)(h:s=⟨#[105,110,102]⟩\/s=⟨#[110,97,110]⟩)(w:World)(cp:Calls prog 130 #[.string s] (w.alloc (.cells #[.int .i64 0,.int .i64 0,.string ⟨#[]⟩,.int .i64 0,.int .u64 0] 71)) λe w'=>e=.returned (.tuple #[.int .u64 x,.int .i64 0])/\Below (w.alloc (.cells #[.int .i64 0,.int .i64 0,.string ⟨#[]⟩,.int .i64 0,.int .u64 0] 71)).heap.size (w.alloc (.cells #[.int .i64 0,.int .i64 0,.string ⟨#[]⟩,.int .i64 0,.int .u64 0] 71)) w') :
  Calls prog 125 #[.string s] w λe w'=>e=.returned (tv ⟨5,⟨#[]⟩,0,x⟩ 0)/\Below w.heap.size w w':=by
 have hB1:Below w.heap.size w (w.alloc (.cells #[.int .i64 0,.int .i64 0,.string ⟨#[]⟩,.int .i64 0,.int .u64 0] 71)):=(z2z _ w).alloc (z0z _) _
 have FR:=hid (z3z w (.cells #[.int .i64 0,.int .i64 0,.string ⟨#[]⟩,.int .i64 0,.int .u64 0] 71))
 have HB:=hid hB1
 clear hB1
 unfold tv
 rcases h with rfl|rfl
 all_goals (
  go_enter func125,ntmps125
  go_wp2_with (go_at_call 130;(with_reducible refine cp.mono ?_);rintro e w2 ⟨rfl,hB2⟩;(have hr:=AY FR.out hB2);(have ec:=AO hr);(have ef:=Bj hr);(have HR:=hid hr);(replace HB:=hid (HB.out.trans (hB2.mono HB.out.size)));clear hr hB2 cp FR)
  refine bodyPost_ret (Kc rfl _ _ w.heap.size _ _ _ _ _ (0,0) rfl (M8 HR.out _ _ _ _ _)) rfl ?_
  exact⟨rfl,VI HB.out (z0z _) _ _ _ _ _⟩)
theorem jh(s:ByteArray)(n0:(s.toList==[105,110,102])=false)(n1:(s.toList==[110,97,110])=false)(n2:(s.toList==[102,110])=false)(n3:(s.toList==[108,101,116])=false)(n4:(s.toList==[105,102])=false)(n5:(s.toList==[101,108,115,101])=false)(n6:(s.toList==[119,104,105,108,101])=false)(n7:(s.toList==[102,111,114])=false)(n8:(s.toList==[105,110])=false)(n9:(s.toList==[98,114,101,97,107])=false)(n10:(s.toList==[99,111,110,116,105,110,117,101])=false)(n11:(s.toList==[114,101,116,117,114,110])=false)(n12:(s.toList==[111,117,116])=false)(n13:(s.toList==[97,110,100])=false)(n14:(s.toList==[111,114])=false)(n15:(s.toList==[110,111,116])=false)(n16:(s.toList==[116,114,117,101])=false)(n17:(s.toList==[102,97,108,115,101])=false)(n18:(s.toList==[110,105,108])=false)(w:World):Calls prog 125 #[.string s] w λe w'=>e=.returned (tv ⟨1,s,0,0⟩ 0)/\Below w.heap.size w w':=by
 unfold tv
 go_enter func125,ntmps125
 go_wp2
 refine bodyPost_ret (Kc rfl _ _ w.heap.size _ _ _ _ _ (0,0) rfl (z3z w _)) rfl ?_
 exact⟨rfl,(z2z _ w).alloc (z0z _) _⟩
theorem yZ(s:ByteArray)(h:s=⟨#[102,110]⟩\/s=⟨#[108,101,116]⟩\/s=⟨#[105,102]⟩\/s=⟨#[101,108,115,101]⟩\/s=⟨#[119,104,105,108,101]⟩\/s=⟨#[102,111,114]⟩\/s=⟨#[105,110]⟩\/s=⟨#[98,114,101,97,107]⟩\/s=⟨#[99,111,110,116,105,110,117,101]⟩\/s=⟨#[114,101,116,117,114,110]⟩\/s=⟨#[111,117,116]⟩\/s=⟨#[97,110,100]⟩\/s=⟨#[111,114]⟩\/s=⟨#[110,111,116]⟩\/s=⟨#[116,114,117,101]⟩\/s=⟨#[102,97,108,115,101]⟩\/s=⟨#[110,105,108]⟩)(w:World):Calls prog 125 #[.string s] w λe w'=>e=.returned (tv ⟨2,s,0,0⟩ 0)/\Below w.heap.size w w':=by
 unfold tv
 rcases h with rfl|rfl|rfl|rfl|rfl|rfl|rfl|rfl|rfl|rfl|rfl|rfl|rfl|rfl|rfl|rfl|rfl
 all_goals (
  go_enter func125,ntmps125
  go_wp2
  refine bodyPost_ret (Kc rfl _ _ w.heap.size _ _ _ _ _ (0,0) rfl (z3z w _)) rfl ?_
  exact⟨rfl,(z2z _ w).alloc (z0z _) _⟩)
theorem ABW(s:ByteArray):bytesOf s.data.toList=s:=by unfold bytesOf;simp
theorem Eh{s:ByteArray}{l:List UInt8}(h:s.data.toList=l):s=⟨l.toArray⟩:=by rw[<- h]
theorem sK(s:ByteArray)(hs:s.size<=maxLen)(w:World)(ht:Tabs w):Calls prog 125 #[.string s] w λe w'=>e=.returned (tv (Gf s.data.toList) 0)/\Below w.heap.size w w':=by
 have cp:=Xg s hs (w.alloc (.cells #[.int .i64 0,.int .i64 0,.string ⟨#[]⟩,.int .i64 0,.int .u64 0] 71)) (ht.on _)
 unfold Gf
 by_cases c1:s.data.toList=Dw
 ·rw[if_pos c1]
  rw[c1] at cp
  exact V9 s _ (.inl (Eh c1)) w cp
 ·rw[if_neg c1]
  by_cases c2:s.data.toList=Gb
  ·rw[if_pos c2]
   rw[c2] at cp
   exact V9 s _ (.inr (Eh c2)) w cp
  ·rw[if_neg c2,ABW]
   by_cases c3:s.data.toList ∈ words
   ·rw[if_pos c3]
    refine yZ s ?_ w
    unfold words at c3
    simp only[List.mem_cons,List.not_mem_nil,or_false] at c3
    rcases c3 with c|c|c|c|c|c|c|c|c|c|c|c|c|c|c|c|c
    ·exact .inl (Eh c)
    ·exact .inr (.inl (Eh c))
    ·exact .inr (.inr (.inl (Eh c)))
    ·exact .inr (.inr (.inr (.inl (Eh c))))
    ·exact .inr (.inr (.inr (.inr (.inl (Eh c)))))
    ·exact .inr (.inr (.inr (.inr (.inr (.inl (Eh c))))))
    ·exact .inr (.inr (.inr (.inr (.inr (.inr (.inl (Eh c)))))))
    ·exact .inr (.inr (.inr (.inr (.inr (.inr (.inr (.inl (Eh c))))))))
    ·exact .inr (.inr (.inr (.inr (.inr (.inr (.inr (.inr (.inl (Eh c)))))))))
    ·exact .inr (.inr (.inr (.inr (.inr (.inr (.inr (.inr (.inr (.inl (Eh c))))))))))
    ·exact .inr (.inr (.inr (.inr (.inr (.inr (.inr (.inr (.inr (.inr (.inl (Eh c)))))))))))
    ·exact .inr (.inr (.inr (.inr (.inr (.inr (.inr (.inr (.inr (.inr (.inr (.inl (Eh c))))))))))))
    ·exact .inr (.inr (.inr (.inr (.inr (.inr (.inr (.inr (.inr (.inr (.inr (.inr (.inl (Eh c)))))))))))))
    ·exact .inr (.inr (.inr (.inr (.inr (.inr (.inr (.inr (.inr (.inr (.inr (.inr (.inr (.inl (Eh c))))))))))))))
    ·exact .inr (.inr (.inr (.inr (.inr (.inr (.inr (.inr (.inr (.inr (.inr (.inr (.inr (.inr (.inl (Eh c)))))))))))))))
    ·exact .inr (.inr (.inr (.inr (.inr (.inr (.inr (.inr (.inr (.inr (.inr (.inr (.inr (.inr (.inr (.inl (Eh c))))))))))))))))
    ·exact .inr (.inr (.inr (.inr (.inr (.inr (.inr (.inr (.inr (.inr (.inr (.inr (.inr (.inr (.inr (.inr (Eh c))))))))))))))))
   ·rw[if_neg c3]
    have ne:∀l:List UInt8,s.data.toList≠l->(s.toList==l)=false:=λl h=>by rw[toList_eq];simpa using h
    have nw:∀l,l ∈ words->(s.toList==l)=false:=λl hl=>ne l (λe=>c3 (e ▸ hl))
    exact jh s (ne _ c1) (ne _ c2) (nw _ (by decide)) (nw _ (by decide)) (nw _ (by decide)) (nw _ (by decide)) (nw _ (by decide)) (nw _ (by decide)) (nw _ (by decide)) (nw _ (by decide)) (nw _ (by decide)) (nw _ (by decide)) (nw _ (by decide)) (nw _ (by decide)) (nw _ (by decide)) (nw _ (by decide)) (nw _ (by decide)) (nw _ (by decide)) (nw _ (by decide)) w
theorem ABp(s:ByteArray)(hs:s.size<=1000000)(w:World):Calls prog 126 #[.string s] w λe w'=>e=.returned (.string s)/\Below w.heap.size w w':=by
 have c:=Tryz.stringslite_Clone s w (by omega)
 clear hs
 go_enter func126,ntmps126
 go_wp2_with (go_at_call 160;(with_reducible refine c.mono ?_);rintro e w2 ⟨rfl,hB⟩)
 go_ret
 exact⟨rfl,hB⟩
theorem vW(s:ByteArray)(h0:0<s.size)(hs:s.size<=1000000)(w:World)(ht:Tabs w):Calls prog 89 #[.string s] w λe w'=>e=.returned (pv (nameP s.data.toList))/\Below w.heap.size w w':=by
 have hm:s.size<=maxLen:=z5z hs (by decide)
 have cr:=λw=>MV s hm 123 Az kX jA w
 have hn:=GK Az s.data.toList
 rw[Ao] at hn
 have cd:=λw=>Qu s[0] w
 have hh:Q0 AV s.data.toList=AV s[0]:=by
  have e:=get_at s 0 h0
  cases hl:s.data.toList with
  | nil=>rw[hl] at e;cases e
  | cons c r=>rw[hl] at e;injection e with e;rw[<- e];rfl
 unfold nameP
 rw[hh]
 by_cases c:runN Az s.data.toList=0
 ·rw[if_pos (.inl c)]
  rw[c] at cr
  clear c hn hh cd hs hm ht h0
  unfold pv Cg
  go_enter func89,ntmps89
  go_wp2_with (go_at_call 120;(with_reducible refine(cr _).mono ?_);rintro e w' ⟨rfl,rfl⟩)
  refine bodyPost_ret (FP rfl _ _ w.heap.size _ _ _ _ _ _ _ (0,0) rfl (z3z w _)) rfl ?_;exact⟨rfl,(z2z _ w).alloc (z0z _) _⟩
 ·cases hd:AV s[0] with
  | true=>
   rw[if_pos (.inr rfl)]
   rw[hd] at cd
   generalize runN Az s.data.toList=n at *
   clear hh hn hs hm ht hd
   unfold pv Cg
   go_enter func89,ntmps89
   go_wp2_with ((with_reducible (apply Calls.mono;first|exact cr _|exact cd _));rintro e w' ⟨rfl,rfl⟩)
   refine bodyPost_ret (FP rfl _ _ w.heap.size _ _ _ _ _ _ _ (0,0) rfl (z3z w _)) rfl ?_;exact⟨rfl,(z2z _ w).alloc (z0z _) _⟩
  | false=>
   rw[if_neg (by rintro(g|g);exact c g;cases g)]
   rw[hd] at cd
   by_cases c2:31<runN Az s.data.toList
   ·rw[if_pos c2]
    generalize runN Az s.data.toList=n at *
    have c3:(n:Int)>31:=by omega
    clear hh hs hm ht hd hn
    unfold pv DF
    go_enter func89,ntmps89
    go_wp2_with ((with_reducible (apply Calls.mono;first|exact cr _|exact cd _));rintro e w' ⟨rfl,rfl⟩)
    refine bodyPost_ret (FP rfl _ _ w.heap.size _ _ _ _ _ _ _ (0,0) rfl (z3z w _)) rfl ?_;exact⟨rfl,(z2z _ w).alloc (z0z _) _⟩
   ·rw[if_neg c2]
    have FR:=hid (z3z w (.cells #[.int .i64 0,.int .i64 0,.string ⟨#[]⟩,.int .i64 0,.int .u64 0,.int .i64 0,.int .i64 0] 105))
    have HB:=hid (show Below w.heap.size w (w.alloc (.cells #[.int .i64 0,.int .i64 0,.string ⟨#[]⟩,.int .i64 0,.int .u64 0,.int .i64 0,.int .i64 0] 105)) from(z2z _ w).alloc (z0z _) _)
    have el:(s.extract 0 (runN Az s.data.toList)).data.toList=s.data.toList.take (runN Az s.data.toList):=by rw[VR]
    have cs:=UM s (runN Az s.data.toList)
    have cc:=λw=>ABp (s.extract 0 (runN Az s.data.toList)) (z5z cs hs) w
    have cN:∀w',Below w.heap.size w w'->Calls prog 125 #[.string (s.extract 0 (runN Az s.data.toList))] w' λe w2=>e=.returned (tv (Gf (s.data.toList.take (runN Az s.data.toList))) 0)/\Below w'.heap.size w' w2:=λw' hB=>by
     have:=sK (s.extract 0 (runN Az s.data.toList)) (z5z cs hm) w' (ht.below hB)
     rw[el] at this
     exact this
    have CN:=hid cN
    obtain⟨t,hxt⟩:∃t,s.extract 0 (runN Az s.data.toList)=t:=⟨_,rfl⟩
    rw[hxt] at cc CN
    clear el cs
    generalize Gf (s.data.toList.take (runN Az s.data.toList))=T at *
    generalize runN Az s.data.toList=n at *
    have c3:¬ (n:Int)>31:=by omega
    clear hh hs hm ht hd cN
    unfold pv Aj
    unfold tv at CN
    go_enter func89,ntmps89
    go_wp2_with (first|((with_reducible (apply Calls.mono;first|exact cr _|exact cd _));rintro e w' ⟨rfl,rfl⟩)|(go_at_call 126;(with_reducible refine(cc _).mono ?_);rintro e w2 ⟨rfl,hB2⟩;(have hr:=AY FR.out hB2);(have HR:=hid hr);(replace HB:=hid (HB.out.trans (hB2.mono HB.out.size)));(have cN:=CN.out w2 HB.out);clear hr hB2 FR CN)|(go_at_call 125;(with_reducible refine cN.mono ?_);rintro e w3 ⟨rfl,hB3⟩;(have hr:=AY HR.out hB3);(have ec:=AO hr);(have ef:=Bj hr);(replace HR:=hid hr);(replace HB:=hid (HB.out.trans (hB3.mono HB.out.size)));clear hr hB3 cN))
    refine bodyPost_ret (FP rfl _ _ w.heap.size _ _ _ _ _ _ _ (0,0) rfl (Oo HR.out _ _ _ _ _ _ _)) rfl ?_
    exact⟨rfl,NW HB.out (z0z _) _ _ _ _ _ _ _⟩
end Go.Proofs.YtjplieobnknnpaaGreatDoor.W
