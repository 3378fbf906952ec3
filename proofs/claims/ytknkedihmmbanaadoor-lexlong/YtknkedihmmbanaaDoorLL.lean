import Derived.Test.YtknkedihmmbanaaDoorRB
import Derived.Test.YtknkedihmmbanaaDoorLC
open List renaming replicate → z2z, length_replicate → z4z, getElem?_replicate → z5z, getElem?_append_left → z8z, set_append_right → z9z, mem_of_find?_eq_some → z10z
open Nat renaming le_refl → z0z, sub_self → z6z
open Go.World renaming alloc → z3z
open Go.RowKit.Below renaming refl → z1z
open Go.IntKind renaming i64 → z7z
open Go.Proofs.Tryd
set_option maxRecDepth 1000000
set_option maxHeartbeats 8000000
namespace Go.Proofs.YtknkedihmmbanaaDoor.W
open Go.ChangeShapes Go.WideShapes Go.RowKit Go.Shelf
set_option linter.unusedVariables false
set_option linter.unusedSimpArgs false
def longL(n:Nat)(c:UInt8):List UInt8:=z2z (n-1) 32++[c]
theorem longL_len(n:Nat)(c:UInt8)(h:0<n):(longL n c).length=n:=by unfold longL;simp;omega
theorem longL_at(n:Nat)(c:UInt8)(k:Nat)(hk:k<n-1):(longL n c)[k]? = some 32:=by
 unfold longL
 rw[z8z (by simpa using hk)]
 simp[hk]
theorem longL_last(n:Nat)(c:UInt8):(longL n c).drop (n-1)=[c]:=by
 unfold longL
 have:=List.drop_left (l₁:=z2z (n-1) (32:UInt8)) (l₂:=[c])
 rwa [z4z] at this
theorem long_place(n:Nat)(c:UInt8)(hn:0<n)(k:Nat)(hk:k<n)(h:NoGap ((longL n c).drop k)):k=n-1:=by
 by_cases e:k<n-1
 ·exfalso
  have h1:=longL_at n c k e
  have h2:((longL n c).drop k).head? = some 32:=by rw[List.head?_drop];exact h1
  have:=(h 32 h2).2
  revert this
  decide
 ·omega
theorem whole7:wholeP [55]=okPc ⟨4,⟨#[]⟩,7,0⟩ 1:=by kernel_rfl
theorem double7:doubleP [55]=noPc:=by kernel_rfl
theorem quote34:quotedP [34]=badPc 1 61:=by kernel_rfl
theorem readI7:readI [55]=(7,0):=by kernel_rfl
theorem rLong_c(s:ByteArray)(n:Nat)(c:UInt8)(hn:65000<=n)(hn2:n<=65536)(hs:s.data.toList=longL n c)(hc:digB c=true->c=55)(w:World):Calls prog 8 #[.string s] w λe w'=>Below w.heap.size w w'/\AllR (T s.data.toList 0) w.heap.size e w':=by
 have hsz:s.size=n:=by rw[<- size_list,hs,longL_len n c (by omega)]
 refine rAll_core s (by omega) (λa ha w=>rBlank_c s (by omega) a ha w) (λk hk hg w=>?_) w
 have hlast:∀ (h:n-1<s.size),s[n-1]=c:=by
  intro h
  have e:=get_at s (n-1) h
  have e2:s.data.toList[n-1]? = some c:=by
   have:=longL_last n c
   rw[hs,<- List.head?_drop,this];rfl
  rw[e2] at e
  exact(Option.some.inj e).symm
 have key:∀h:k<s.size,k=n-1/\s.data.toList.drop k=[c]/\s[k]=c:=by
  intro h
  have e:k=n-1:=long_place n c (by omega) k (by omega) (by rw[<- hs];exact hg)
  subst e
  exact⟨rfl,by rw[hs];exact longL_last n c,hlast h⟩
 have base:=rNext_c s (by omega) k hk (λh hd w=>?_) (λh hq w=>?_) w
 ·refine base.mono ?_
  rintro e w' ⟨he,hb⟩
  obtain⟨t,x,y,c',f,h1,h2⟩:=next_form s.data.toList k (by rw[size_list];exact hk) hg
  exact⟨⟨t,x,y,c',f,by rw[he,h1];rfl,h2⟩,hb⟩
 ·obtain⟨e1,e2,e3⟩:=key h
  rw[e3] at hd
  have e4:=hc hd
  rw[e2,e4,double7,or_no,whole7,nx_ok _ 1 k (by decide)]
  obtain⟨S,hS⟩:∃S,s.extract k (k+1)=S:=⟨_,rfl⟩
  have hSl:S.data.toList=[55]:=by rw[<- hS,ext_take,e2,e4];rfl
  have cp:=λw=>refParseInt_c S (by rw[<- size_list,hSl];unfold maxLen;decide) w
  rw[hSl,readI7] at cp
  refine rWhole_core s S (by omega) k 1 (k+1) h rfl (by decide) (by omega) ?_ hS 7 0 cp (.inl ?_) _ (.inr ⟨rfl,rfl⟩) w
  ·rw[e2,e4];rfl
  ·rw[e3,e4];rfl
 ·obtain⟨e1,e2,e3⟩:=key h
  rw[e3] at hq
  have e4:c=34:=u8_is hq
  rw[e2,e4,quote34,nx_bad 1 61 k (by decide) (by decide)]
  exact rText_end s (by omega) k (by omega) w
theorem made_one(v:Value)(n:Nat):(madeCells #[v] n).toList=z2z n v:=by
 apply List.ext_getElem?
 intro i
 by_cases hi:i<n
 ·rw[z5z,if_pos hi]
  simp[madeCells,hi,Nat.mod_one]
 ·rw[z5z,if_neg hi]
  simp[madeCells,hi]
def rowL(n i:Nat):List Value:=z2z i (.int .u8 32)++z2z (n-i) (.int .u8 0)
theorem rowL_set(n i:Nat)(h:i<n):(rowL n i).set i (.int .u8 32)=rowL n (i+1):=by
 unfold rowL
 obtain⟨m,hm⟩:∃m,n-i=m+1:=⟨n-i-1,by omega⟩
 have hm2:n-(i+1)=m:=by omega
 rw[hm,hm2,z9z _ _ (by simp),z4z,z6z,List.replicate_succ,List.set_cons_zero,List.replicate_succ',List.append_assoc]
 rfl
theorem rowL_last(n:Nat)(c:UInt8)(h:0<n):(rowL n n).set (n-1) (.int .u8 (c.toNat:Int))=bytesV (longL n c):=by
 unfold rowL longL bytesV
 obtain⟨m,rfl⟩:∃m,n=m+1:=⟨n-1,by omega⟩
 rw[z6z,List.replicate_zero,List.append_nil,List.replicate_succ',Nat.add_sub_cancel,z9z _ _ (by simp),z4z,z6z,List.map_append,List.map_replicate]
 rfl
theorem make_bytes(w:World)(n:Nat)(hn:n<=1048576):∃w',(Instr.makeSlice 36 (.int .i64 (n:Int)) (.int .i64 (n:Int))).run prog w=.ok (.slice (some ⟨w.heap.size,0,none⟩) n n) w'/\w'.heap[w.heap.size]? = some (.cells (rowL n 0).toArray 5 (0,0))/\w.grownBy w' none:=by
 obtain⟨i0,hi,hz0,hz1,hz2⟩:=info_parts infoB
 obtain⟨w',h1,h2,h3⟩:=run_makeSlice_full (P:=prog) w w.heap.size 36 5 i0 (.int .u8 0) 1 underlying36 hi hz0 hz1 .i64 .i64 n (by omega) (by rw[hz2];omega) (by simp[maxLen];omega) (z0z _)
 refine⟨w',h1,?_,h3⟩
 have e:(madeCells (Value.int .u8 0).cells (n*1)).toList=rowL n 0:=by
  rw[Nat.mul_one]
  show (madeCells #[Value.int .u8 0] n).toList=_
  rw[made_one]
  rfl
 rw[e] at h2
 rcases h2.2 with⟨h,_⟩|⟨g,cap,cur,hv,_,hg,_,_,hc,ht⟩
 ·cases h
 ·cases hv
  rw[hg]
  congr 2
  apply Array.ext'
  rw[List.take_of_length_le (by simp;omega)] at ht
  simpa using ht
theorem grown_below{w w':World}(h:w.grownBy w' none):Below w.heap.size w w':=⟨h.os,h.tape,h.output,h.size,λk hk=>h.block k hk (by simp)⟩
theorem long_own{w:World}{b n:Nat}{c:UInt8}(h:w.heap[b]? = some (.cells (bytesV (longL n c)).toArray 5 (0,0)))(hn:0<n)(hn2:n<=1000000):w.ownsRow 0 5 1 (.slice (some ⟨b,0,none⟩) n n) n (bytesV (longL n c)):=by
 have hl:(bytesV (longL n c)).length=n:=by unfold bytesV;rw[List.length_map,longL_len n c hn]
 refine⟨by rw[hl];omega,.inr ⟨b,n,_,rfl,Nat.zero_le _,h,z0z _,by unfold maxLen;omega,by simp[hl],?_⟩⟩
 rw[List.toList_toArray,Nat.mul_one,List.take_of_length_le (by omega)]
theorem allR_bad{Ys:List Yd}{B:Nat}{e:Ending}{w':World}{y:Yd}(h:AllR Ys B e w')(hY:Ys.find? (λy=>y.c != 0)=some y):e=.returned (.tuple #[.slice none 0 0,.agg #[.int .i64 y.c,.int .i64 y.f]]):=by
 rcases h with⟨z,h1,h2⟩|⟨h0,_⟩
 ·obtain rfl:=Option.some.inj (hY.symm.trans h1)
  exact h2
 ·have:=List.find?_some hY
  rw[h0 y (z10z hY)] at this
  cases this
theorem allR_good{Ys:List Yd}{B:Nat}{e:Ending}{w':World}(h:AllR Ys B e w')(h0:∀y ∈ Ys,y.c=0)(hn:0<Ys.length):∃g cap,e=.returned (.tuple #[.slice (some ⟨g,0,none⟩) Ys.length cap,.agg #[.int .i64 0,.int .i64 0]])/\TokRow w' B g cap Ys:=by
 rcases h with⟨y,h1,_⟩|⟨_,v,he,hown⟩
 ·have:=List.find?_some h1
  have hm:=z10z h1
  rw[h0 y hm] at this
  cases this
 ·rcases hown.2 with⟨_,e0⟩|⟨g,cap,cur,rfl,h2,h3,h4,h5,h6,h7⟩
  ·omega
  ·refine⟨g,cap,he,h2,(Array.getElem?_eq_some_iff.1 h3).1,h4,λk hk=>?_⟩
   rw[cell_of_row _ g k _ _ _ h3,<- h7,List.getElem?_take,if_pos (by omega),Array.getElem?_toList]
theorem rowL_at(n i:Nat)(h:i<n):(rowL n i)[i]? = some (.int .u8 0):=by
 unfold rowL
 rw[List.getElem?_append_right (by simp),z4z,z6z,z5z,if_pos (by omega)]
theorem rowL_end(n:Nat)(h:0<n):(rowL n n)[n-1]? = some (.int .u8 32):=by
 unfold rowL
 rw[z8z (by simp;omega),z5z,if_pos (by omega)]
theorem ll_ar(n i:Nat)(h:i<=66000)(h2:n<=66000)(h3:0<n):z7z.wrap ((i:Int)+1)=((i+1:Nat):Int)/\wrap64 ((i:Int)+1)=((i+1:Nat):Int)/\z7z.wrap ((n:Int)-1)=((n-1:Nat):Int)/\wrap64 ((n:Int)-1)=((n-1:Nat):Int):=by
 refine⟨?_,?_,?_,?_⟩ <;> first|(rw[IntKind.wrap_i64];omega)|(unfold wrap64;omega)
theorem ll_ar1(k:Nat)(h:k<=100000):z7z.wrap ((k:Int)+1)=((k+1:Nat):Int)/\wrap64 ((k:Int)+1)=((k+1:Nat):Int):=by
 refine⟨?_,?_⟩
 ·rw[IntKind.wrap_i64];omega
 ·unfold wrap64;omega
theorem lexLong_front(n:Nat)(c:UInt8)(hn:65000<=n)(hn2:n<=66000)(hc:(((c.toNat:Int)!=32)=false)\/(((c.toNat:Int)!=32)=true/\((c.toNat:Int)!=10)=false)\/(((c.toNat:Int)!=32)=true/\((c.toNat:Int)!=10)=true/\((c.toNat:Int)!=97)=false)\/(((c.toNat:Int)!=32)=true/\((c.toNat:Int)!=10)=true/\((c.toNat:Int)!=97)=true/\((c.toNat:Int)!=55)=false)\/(((c.toNat:Int)!=32)=true/\((c.toNat:Int)!=10)=true/\((c.toNat:Int)!=97)=true/\((c.toNat:Int)!=55)=true/\((c.toNat:Int)!=34)=false)\/(((c.toNat:Int)!=32)=true/\((c.toNat:Int)!=10)=true/\((c.toNat:Int)!=97)=true/\((c.toNat:Int)!=55)=true/\((c.toNat:Int)!=34)=true/\((c.toNat:Int)!=40)=false))(w:World)(ht:Tabs w)(hm:MarksIn w)(N1:Nat)(hN1:N1=n-1)
  (lex:(65536<n/\∀w,Tabs w->MarksIn w->Calls prog 9 #[.string ⟨(longL n c).toArray⟩] w λe w'=>Below w.heap.size w w'/\e=.returned (.tuple #[.slice none 0 0,.agg #[.int .i64 2,.int .i64 0]])) \/
   (¬65536<n/\∃x f,(∀w,Tabs w->MarksIn w->Calls prog 9 #[.string ⟨(longL n c).toArray⟩] w λe w'=>Below w.heap.size w w'/\e=.returned (.tuple #[.slice none 0 0,.agg #[.int .i64 x,.int .i64 f]]))/\(∀w,Calls prog 8 #[.string ⟨(longL n c).toArray⟩] w λe w'=>Below w.heap.size w w'/\e=.returned (.tuple #[.slice none 0 0,.agg #[.int .i64 x,.int .i64 f]]))) \/
   (¬65536<n/\∃ (Ys:List Yd) (m:Nat),Ys.length=m/\m<=100000/\(∀w,Tabs w->MarksIn w->Calls prog 9 #[.string ⟨(longL n c).toArray⟩] w λe w'=>Below w.heap.size w w'/\∃g cap,e=.returned (.tuple #[.slice (some ⟨g,0,none⟩) m cap,.agg #[.int .i64 0,.int .i64 0]])/\TokRow w' w.heap.size g cap Ys)/\(∀w,Calls prog 8 #[.string ⟨(longL n c).toArray⟩] w λe w'=>Below w.heap.size w w'/\∃g cap,e=.returned (.tuple #[.slice (some ⟨g,0,none⟩) m cap,.agg #[.int .i64 0,.int .i64 0]])/\TokRow w' w.heap.size g cap Ys))) :
  Calls prog 4 #[.int .i64 (n:Int),.int .u8 (c.toNat:Int)] w λe w'=>e=.returned (.bool true)/\Below w.heap.size w w':=by
 have g1:¬ (n:Int)<65000:=by omega
 have g2:¬ (n:Int)>66000:=by omega
 obtain⟨W,hrun,hrow,hgr⟩:=make_bytes w n (by omega)
 have hbel:=grown_below hgr
 have HTM:=hid (And.intro ht hm)
 have HN:=hid (And.intro hn hn2)
 have HN1:=hid hN1
 have HL:=hid lex
 have HBE:=hid hbel
 have HROW:=hid hrow
 obtain⟨B,hB⟩:∃B,w.heap.size=B:=⟨_,rfl⟩
 have HB:=hid hB
 rw[hB] at hrun
 clear hgr hn hn2 hN1 lex hbel hrow ht hm
 rcases hc with x0|⟨x0,x1⟩|⟨x0,x1,x2⟩|⟨x0,x1,x2,x3⟩|⟨x0,x1,x2,x3,x4⟩|⟨x0,x1,x2,x3,x4,x5⟩
 all_goals (
  go_enter func4,ntmps4
  go_upto_region 3 with fail
  (try clear x0)
  (try clear x1)
  (try clear x2)
  (try clear x3)
  (try clear x4)
  (try clear x5)
  clear g1 g2
  go_wp2_with fail
  clear hrun
  go_loopw [6] (λi wr=>∃k:Nat,i=.int .i64 k/\k<=n/\wr.heap[B]? = some (.cells (rowL n k).toArray 5 (0,0))/\Below w.heap.size w wr) (λi _=>n-(intOf i).toNat)
  case atStart=>exact⟨0,rfl,Nat.zero_le _,by rw[<- HB.out];exact HROW.out,HBE.out⟩
  case round=>
   obtain⟨k,rfl,hk,hr,hb⟩:=hrel
   obtain⟨v1,v2,v3,v4⟩:=ll_ar n k (by have:=HN.out;omega) HN.out.2 (by have:=HN.out;omega)
   by_cases ck:k<n
   ·have l1:(k:Int)<(n:Int):=by omega
    have l0:(0:Int)<=(k:Int):=by omega
    have c0:wr.cell? ⟨B,k,none⟩=some (.int .u8 0):=by rw[row_cellsX hr k];simpa using rowL_at n k ck
    have f0:=row_thawX hr
    have HR:=hid (show (wr.setCell ⟨B,k,none⟩ (.int .u8 32)).heap[B]? = some (.cells (rowL n (k+1)).toArray 5 (0,0)) by rw[heap_setX hr k (.int .u8 32),rowL_set n k ck])
    have HBB:=hid (hb.setCell (p:=⟨B,k,none⟩) (by show w.heap.size<=B;rw[HB.out];exact z0z _) (.int .u8 32))
    have HK:=hid ck
    clear hr hb hk ck v3 v4
    go_wp2
    go_roundw
    case rel=>exact⟨k+1,by go_num,HK.out,HR.out,HBB.out⟩
    case measure=>have:=HK.out;simp[intOf];omega
   ·have ek:k=n:=by omega
    subst ek
    have l1:¬ (k:Int)<(k:Int):=by omega
    rw[<- HN1.out] at v3 v4
    have l2:(0:Int)<=(N1:Int):=by omega
    have l3:(N1:Int)<(k:Int):=by have:=HN1.out;have:=HN.out;omega
    have c0:wr.cell? ⟨B,N1,none⟩=some (.int .u8 32):=by rw[row_cellsX hr N1,HN1.out];simpa using rowL_end k (by have:=HN.out;omega)
    have f0:=row_thawX hr
    have hR2:(wr.setCell ⟨B,N1,none⟩ (.int .u8 (c.toNat:Int))).heap[B]? = some (.cells (bytesV (longL k c)).toArray 5 (0,0)):=by
     rw[heap_setX hr N1 (.int .u8 (c.toNat:Int)),HN1.out,rowL_last k c (by have:=HN.out;omega)]
    have hb2:=hb.setCell (p:=⟨B,N1,none⟩) (by show w.heap.size<=B;rw[HB.out];exact z0z _) (.int .u8 (c.toNat:Int))
    clear hr hb hk ck v1 v2
    go_upto_region 9 with fail
    generalize wr.setCell ⟨B,N1,none⟩ (.int .u8 (c.toNat:Int))=W3 at *
    clear c0 f0 l1 l2 l3 v3 v4
    have hS:Sx w W3:=⟨hb2,HTM.out.1.below hb2,HTM.out.2.below hb2⟩
    have kc:=conv_own (longL k c) (long_own hR2 (by have:=HN.out;omega) (by have:=HN.out;omega))
    have HR2:=hid hR2
    clear hR2 hb2
    rcases HL.out with⟨big,c1⟩|⟨big,x,f,c1,c2⟩|⟨big,Ys,m,hm1,hm2,c1,c2⟩
    ·have g1:(k:Int)>65536:=by omega
     clear HL
     go_upto_region 10 with(go_at_call 9;(with_reducible refine(c1 _ hS.tabs hS.marks).mono ?_);rintro e wn ⟨hb,rfl⟩;(replace hS:=hS.go hb);clear hb)
     have f1:=Blk.new wn #[Value.int .i64 2,Value.int .i64 0] 25
     replace hS:=hS.alloc (Obj.cells #[Value.int .i64 2,Value.int .i64 0] 25)
     generalize z3z wn _=W4 at *
     generalize wn.heap.size=b4 at *
     have q0:=f1.cells 0
     have q1:=f1.cells 1
     simp at q0 q1
     clear c1 kc big
     go_wp2_with (go_at_call 12;refine(awake11_c _ hS.tabs hS.marks).mono ?_;rintro e wn ⟨rfl,hb⟩;(replace hS:=hS.go hb);clear hb)
     go_ret
     exact⟨rfl,hS.bel⟩
    ·have g1:¬ (k:Int)>65536:=by omega
     clear HL
     go_upto_region 10 with(go_at_call 9;(with_reducible refine(c1 _ hS.tabs hS.marks).mono ?_);rintro e wn ⟨hb,rfl⟩;(replace hS:=hS.go hb);(replace HR2:=hid (row_keepX HR2.out hb));clear hb)
     have f1:=Blk.new wn #[Value.int .i64 x,Value.int .i64 f] 25
     replace hS:=hS.alloc (Obj.cells #[Value.int .i64 x,Value.int .i64 f] 25)
     replace HR2:=hid (row_keepX HR2.out ((z1z _ wn).alloc (z0z _) (Obj.cells #[Value.int .i64 x,Value.int .i64 f] 25)))
     generalize z3z wn _=W4 at *
     generalize wn.heap.size=b4 at *
     have kc2:=conv_own (longL k c) (long_own HR2.out (by have:=HN.out;omega) (by have:=HN.out;omega))
     clear c1 kc big
     go_upto_region 13 with(go_at_call 8;(with_reducible refine(c2 _).mono ?_);rintro e wn ⟨hb,rfl⟩;(replace hS:=hS.go hb);(replace f1:=f1.go hb);clear hb)
     have f2:=Blk.new wn #[Value.int .i64 x,Value.int .i64 f] 25
     replace f1:=f1.alloc (Obj.cells #[Value.int .i64 x,Value.int .i64 f] 25)
     replace hS:=hS.alloc (Obj.cells #[Value.int .i64 x,Value.int .i64 f] 25)
     generalize z3z wn _=W5 at *
     generalize wn.heap.size=b5 at *
     have q0:=f1.cells 0
     have q1:=f1.cells 1
     have q2:=f2.cells 0
     have q3:=f2.cells 1
     simp at q0 q1 q2 q3
     clear c2 kc2 g1
     go_wp2_with fail
     refine wp_loop_rounds 1 ?_
     rw[rounds_succ]
     go_wp2_with (go_at_call 12;refine(awake11_c _ hS.tabs hS.marks).mono ?_;rintro e wn ⟨rfl,hb⟩;(replace hS:=hS.go hb);clear hb)
     go_ret
     exact⟨rfl,hS.bel⟩
    ·have g1:¬ (k:Int)>65536:=by omega
     clear HL
     go_upto_region 10 with(go_at_call 9;(with_reducible refine(c1 _ hS.tabs hS.marks).mono ?_);rintro e wn ⟨hb,ga,ka,rfl,r1⟩;(replace hS:=hS.go hb);(replace HR2:=hid (row_keepX HR2.out hb));clear hb)
     have f1:=Blk.new wn #[Value.int .i64 0,Value.int .i64 0] 25
     replace hS:=hS.alloc (Obj.cells #[Value.int .i64 0,Value.int .i64 0] 25)
     replace HR2:=hid (row_keepX HR2.out ((z1z _ wn).alloc (z0z _) (Obj.cells #[Value.int .i64 0,Value.int .i64 0] 25)))
     replace r1:=r1.below ((z1z _ wn).alloc (z0z _) (Obj.cells #[Value.int .i64 0,Value.int .i64 0] 25))
     generalize z3z wn _=W4 at *
     generalize wn.heap.size=b4 at *
     have kc2:=conv_own (longL k c) (long_own HR2.out (by have:=HN.out;omega) (by have:=HN.out;omega))
     clear c1 kc big
     go_upto_region 13 with(go_at_call 8;(with_reducible refine(c2 _).mono ?_);rintro e wn ⟨hb,gb,kb,rfl,r2⟩;(replace hS:=hS.go hb);(replace f1:=f1.go hb);(replace r1:=r1.below hb);clear hb)
     have f2:=Blk.new wn #[Value.int .i64 0,Value.int .i64 0] 25
     replace f1:=f1.alloc (Obj.cells #[Value.int .i64 0,Value.int .i64 0] 25)
     replace hS:=hS.alloc (Obj.cells #[Value.int .i64 0,Value.int .i64 0] 25)
     replace r1:=r1.below ((z1z _ wn).alloc (z0z _) (Obj.cells #[Value.int .i64 0,Value.int .i64 0] 25))
     replace r2:=r2.below ((z1z _ wn).alloc (z0z _) (Obj.cells #[Value.int .i64 0,Value.int .i64 0] 25))
     generalize z3z wn _=W5 at *
     generalize wn.heap.size=b5 at *
     have q0:=f1.cells 0
     have q1:=f1.cells 1
     have q2:=f2.cells 0
     have q3:=f2.cells 1
     simp at q0 q1 q2 q3
     have R1:=hid r1
     have R2:=hid r2
     have HS5:=hid hS
     have HM:=hid (And.intro hm1 hm2)
     clear c2 kc2 g1 r1 r2 hS f1 f2 hm1 hm2
     go_wp2_with fail
     clear q0 q1 q2 q3
     go_loopw [11] (λi wq=>∃j:Nat,i=.int .i64 j/\j<=m/\Below W5.heap.size W5 wq) (λi _=>m-(intOf i).toNat)
     case atStart=>exact⟨0,rfl,by omega,z1z _ _⟩
     case round=>
      obtain⟨j,rfl,hj,hBq⟩:=hrel
      obtain⟨hm1,hm2⟩:=HM.out
      have s1:=R1.out.below hBq
      have s2:=R2.out.below hBq
      obtain⟨vj,vj2⟩:=ll_ar1 j (by omega)
      by_cases cj:j<m
      ·have jy:j<Ys.length:=by omega
       obtain⟨a0,a1,a2,a3,a4⟩:=s1.at j jy
       obtain⟨e0,e1,e2,e3,e4⟩:=s2.at j jy
       generalize Ys[j]=y at *
       have l2:(j:Int)<(m:Int):=by omega
       have l0:(0:Int)<=(j:Int):=by omega
       have HBq:=hid hBq
       have HC:=hid cj
       clear s1 s2 hBq hj cj hm1 hm2 jy
       go_upto_region 18 with fail
       have inst:Nonempty (BW wr):=⟨⟨_,z1z _ _⟩⟩
       have x0:=BW.cell a0
       have x1:=BW.cell a1
       have x2:=BW.cell a2
       have x3:=BW.cell a3
       have x4:=BW.cell a4
       have z0:=BW.cell e0
       have z1:=BW.cell e1
       have z2:=BW.cell e2
       have z3:=BW.cell e3
       have z4:=BW.cell e4
       clear a0 a1 a2 a3 a4 e0 e1 e2 e3 e4
       refine wp_region_quiet_below (by kernel_rfl) (by kernel_rfl) ?_
       repeat (go_big_quiet_step (fail))
       refine wpQuiet_nil ?_
       intro _ hw'
       obtain⟨pw,hw''⟩:=hw'
       subst hw''
       clear x0 x1 x2 x3 x4 z0 z1 z2 z3 z4 l0 l2
       go_wp2
       go_roundw
       case rel=>exact⟨j+1,by go_num,HC.out,HBq.out.trans (pw.h.mono HBq.out.size)⟩
       case measure=>have:=HC.out;simp[intOf];omega
      ·have l2:¬ (j:Int)<(m:Int):=by omega
       have hS:=HS5.out.go hBq
       clear s1 s2 hBq hj cj hm1 hm2
       go_wp2_with (go_at_call 12;refine(awake11_c _ hS.tabs hS.marks).mono ?_;rintro e wn ⟨rfl,hb⟩;(replace hS:=hS.go hb);clear hb)
       go_ret
       exact⟨rfl,hS.bel⟩)
theorem lexLong_out(a b:Int)(h:a<65000\/a>66000\/((b != 32)=true/\(b != 10)=true/\(b != 97)=true/\(b != 55)=true/\(b != 34)=true/\(b != 40)=true))(w:World):Calls prog 4 #[.int .i64 a,.int .u8 b] w λe w'=>e=.returned (.bool true)/\Below w.heap.size w w':=by
 by_cases g1:a<65000
 ·clear h
  go_enter func4,ntmps4
  go_wp2
  go_ret
  exact⟨rfl,z1z _ _⟩
 ·by_cases g2:a>66000
  ·clear h
   go_enter func4,ntmps4
   go_wp2
   go_ret
   exact⟨rfl,z1z _ _⟩
  ·rcases h with h|h|⟨x0,x1,x2,x3,x4,x5⟩
   ·exact absurd h g1
   ·exact absurd h g2
   ·go_enter func4,ntmps4
    go_wp2
    go_ret
    exact⟨rfl,z1z _ _⟩
theorem lexLong_in(n:Nat)(c:UInt8)(hn:65000<=n)(hn2:n<=66000)(hc:c=32\/c=10\/c=97\/c=55\/c=34\/c=40)(w:World)(ht:Tabs w)(hm:MarksIn w):Calls prog 4 #[.int .i64 (n:Int),.int .u8 (c.toNat:Int)] w λe w'=>e=.returned (.bool true)/\Below w.heap.size w w':=by
 have hd:(⟨(longL n c).toArray⟩:ByteArray).data.toList=longL n c:=by simp
 have hsz:(⟨(longL n c).toArray⟩:ByteArray).size=n:=by rw[<- size_list,hd,longL_len n c (by omega)]
 have hdig:digB c=true->c=55:=by
  rcases hc with rfl|rfl|rfl|rfl|rfl|rfl <;> decide
 refine lexLong_front n c hn hn2 ?_ w ht hm (n-1) rfl ?_
 ·rcases hc with rfl|rfl|rfl|rfl|rfl|rfl
  ·exact .inl (by decide)
  ·exact .inr (.inl (by decide))
  ·exact .inr (.inr (.inl (by decide)))
  ·exact .inr (.inr (.inr (.inl (by decide))))
  ·exact .inr (.inr (.inr (.inr (.inl (by decide)))))
  ·exact .inr (.inr (.inr (.inr (.inr (by decide)))))
 ·by_cases big:65536<n
  ·left
   refine⟨big,λw ht hm=>?_⟩
   refine all_bad ⟨(longL n c).toArray⟩ (by omega) ⟨noTk,0,2,0⟩ ?_ w ht hm
   rw[hd]
   unfold srcY
   rw[if_pos (by rw[longL_len n c (by omega)];exact big)]
   rfl
  ·right
   have hsrc:srcY (⟨(longL n c).toArray⟩:ByteArray).data.toList=T (longL n c) 0:=by rw[hd];exact src_T _ (by rw[longL_len n c (by omega)];omega)
   have cr:=λw=>rLong_c ⟨(longL n c).toArray⟩ n c hn (by omega) hd hdig w
   rw[hd] at cr
   obtain⟨ts,z,hT,hts,hz⟩:=T_form _ (longL n c) 0 (z0z _)
   have hl:=srcY_len (⟨(longL n c).toArray⟩:ByteArray).data.toList
   rw[hsrc,size_list,hsz] at hl
   by_cases hzc:z.c=0
   ·right
    have h0:∀y ∈ T (longL n c) 0,y.c=0:=by
     rw[hT]
     intro y hy
     rcases List.mem_append.1 hy with hy|hy
     ·exact(hts y hy).1
     ·simp only[List.mem_singleton] at hy;rw[hy];exact hzc
    have hpos:0<(T (longL n c) 0).length:=by rw[hT];simp
    refine⟨big,T (longL n c) 0,_,rfl,by omega,λw ht hm=>all_good _ (by omega) _ hsrc h0 hpos w ht hm,λw=>?_⟩
    refine(cr w).mono ?_
    rintro e w' ⟨h1,h2⟩
    exact⟨h1,allR_good h2 h0 hpos⟩
   ·left
    have hf:(T (longL n c) 0).find? (λy=>y.c != 0)=some z:=by rw[hT];exact find_last' ts z (λy hy=>(hts y hy).1) hzc
    refine⟨big,z.c,z.f,λw ht hm=>all_bad _ (by omega) z (by rw[hsrc];exact hf) w ht hm,λw=>?_⟩
    refine(cr w).mono ?_
    rintro e w' ⟨h1,h2⟩
    exact⟨h1,allR_bad h2 hf⟩
theorem lexLong_walk(a0 a1:Int)(w0:(Lit.int .i64 a0).wf=true)(w1:(Lit.int .u8 a1).wf=true)(w:World)(ht:Tabs w)(hm:MarksIn w):Calls prog 4 #[.int .i64 a0,.int .u8 a1] w λe w'=>e=.returned (.bool true)/\Below w.heap.size w w':=by
 have hb:0<=a1/\a1<=255:=by
  simp[Lit.wf] at w1
  have e1:IntKind.u8.min=0:=by decide
  have e2:IntKind.u8.max=255:=by decide
  omega
 by_cases g1:a0<65000
 ·exact lexLong_out a0 a1 (.inl g1) w
 ·by_cases g2:a0>66000
  ·exact lexLong_out a0 a1 (.inr (.inl g2)) w
  ·by_cases g3:a1=32\/a1=10\/a1=97\/a1=55\/a1=34\/a1=40
   ·obtain⟨n,rfl⟩:=Int.eq_ofNat_of_zero_le (show 0<=a0 by omega)
    obtain⟨m,rfl⟩:=Int.eq_ofNat_of_zero_le hb.1
    have hc:(m.toUInt8).toNat=m:=by simp;omega
    have key:=lexLong_in n m.toUInt8 (by omega) (by omega) (by
     have:m=32\/m=10\/m=97\/m=55\/m=34\/m=40:=by omega
     rcases this with rfl|rfl|rfl|rfl|rfl|rfl <;> decide) w ht hm
    rw[hc] at key
    exact key
   ·refine lexLong_out a0 a1 (.inr (.inr ⟨?_,?_,?_,?_,?_,?_⟩)) w <;> (simp;omega)
end Go.Proofs.YtknkedihmmbanaaDoor.W
