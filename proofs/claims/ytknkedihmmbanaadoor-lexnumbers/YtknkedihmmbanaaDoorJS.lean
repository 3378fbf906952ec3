import Derived.Test.YtknkedihmmbanaaDoorJC
import Derived.Test.YtknkedihmmbanaaDoorJP
import Derived.Test.YtknkedihmmbanaaDoorJR
import Derived.Sort.Grow
import Derived.Deep.QuietTactic
import Derived.BigQuiet
open List renaming mem_of_find?_eq_some → z1z
open Go.RowKit.Below renaming refl → z0z
open Go.Proofs.Tryd
set_option maxRecDepth 1000000
set_option maxHeartbeats 8000000
namespace Go.Proofs.YtknkedihmmbanaaDoor.W
set_option linter.unusedVariables false
theorem run_all(p:UInt8->Bool)(l:List UInt8)(h:∀c ∈ l,p c=true):runN p l=l.length:=by
 induction l with
 | nil=>rfl
 | cons c r ih=>rw[runN_cons_t (h c (by simp)),ih (λx hx=>h x (by simp[hx]))];rfl
theorem orPc_none{a b:Pc}(h:a.size=0):orPc a b=b:=if_pos h
theorem orPc_some{a b:Pc}(h:¬a.size=0):orPc a b=a:=if_neg h
theorem gap_none(c:UInt8)(r:List UInt8)(h1:c≠35)(h2:blankB c=false):(gapP (c::r)).size=0:=by
 show gapN (c::r)=0
 unfold gapN
 rw[if_neg (by intro h;injection h with h;exact h1 h),runN_cons_f h2]
theorem dig_facts(c:UInt8)(h:digB c=true):c≠35/\blankB c=false/\c≠120/\c≠34:=by
 have all:∀n:Fin 256,digB (UInt8.ofNat n)=true->UInt8.ofNat n≠35/\blankB (UInt8.ofNat n)=false/\UInt8.ofNat n≠120/\UInt8.ofNat n≠34:=by decide +kernel
 have:=all ⟨c.toNat,c.toNat_lt⟩
 simpa using this (by simpa using h)
theorem piece_digits(l:List UInt8)(hd:∀c ∈ l,digB c=true)(hn:l≠[]):pieceP l=if (readI l).2=0 then okPc ⟨4,⟨#[]⟩,(readI l).1,0⟩ l.length else badPc l.length 62:=by
 cases l with
 | nil=>exact absurd rfl hn
 | cons c r=>
  obtain⟨f1,f2,f3,f4⟩:=dig_facts c (hd c (by simp))
  have g1:=gap_none c r f1 f2
  have g2:nameP (c::r)=noPc:=if_pos (.inr (hd c (by simp)))
  have g3:doubleP (c::r)=noPc:=by
   refine if_neg (λh=>?_)
   cases r with
   | nil=>cases h
   | cons d r=>
    injection h with _ h
    injection h with h
    exact(dig_facts d (hd d (by simp))).2.2.1 h
  have g4:=run_all digB (c::r) hd
  have g5:wholeP (c::r)=if (readI (c::r)).2=0 then okPc ⟨4,⟨#[]⟩,(readI (c::r)).1,0⟩ (c::r).length else badPc (c::r).length 62:=by
   unfold wholeP
   rw[g4,if_neg (by simp),List.take_length]
  unfold pieceP
  rw[orPc_none g1,g2,orPc_none (show noPc.size=0 from rfl),g3,orPc_none (show noPc.size=0 from rfl),orPc_some,g5]
  rw[g5]
  split <;> simp[okPc,badPc]
theorem piece_minus(r:List UInt8):pieceP (45::r)=okPc ⟨3,bytesOf [45],0,0⟩ 1:=by
 have g1:=gap_none 45 r (by decide) (by decide)
 have g2:nameP (45::r)=noPc:=if_pos (.inl (runN_cons_f (by decide)))
 have g3:doubleP (45::r)=noPc:=by
  refine if_neg (λh=>?_)
  cases r with
  | nil=>cases h
  | cons d r=>injection h with h;exact absurd h (by decide)
 have g4:wholeP (45::r)=noPc:=if_pos (runN_cons_f (by decide))
 have g5:quotedP (45::r)=noPc:=if_neg (by intro h;injection h with h;exact absurd h (by decide))
 have g6:markP (45::r)=okPc ⟨3,bytesOf [45],0,0⟩ 1:=by
  have e:marks.find? (λm=>(45::r).take m.length==m)=some [45]:=by
   simp[marks,List.find?]
  unfold markP
  rw[e]
  rfl
 unfold pieceP
 rw[orPc_none g1,g2,orPc_none (show noPc.size=0 from rfl),g3,orPc_none (show noPc.size=0 from rfl),g4,orPc_none (show noPc.size=0 from rfl),g5,orPc_none (show noPc.size=0 from rfl),g6]
theorem piece_inf:pieceP infT=okPc ⟨5,⟨#[]⟩,0,9218868437227405312⟩ 3:=rfl
theorem piece_nan:pieceP nanT=okPc ⟨5,⟨#[]⟩,0,9221120237041090560⟩ 3:=rfl
theorem run_app(p:UInt8->Bool)(a b:List UInt8)(h:∀c ∈ a,p c=true)(hb:∀c,b.head? = some c->p c=false):runN p (a++b)=a.length:=by
 induction a with
 | nil=>
  cases b with
  | nil=>rfl
  | cons c r=>exact runN_cons_f (hb c rfl)
 | cons c r ih=>rw[List.cons_append,runN_cons_t (h c (by simp)),ih (λx hx=>h x (by simp[hx]))];rfl
theorem tail_form(a:Nat):∃ (sg:UInt8) (ds:List UInt8),tailT a=112::sg::ds/\(sg=43\/sg=45)/\∀c ∈ ds,digB c=true:=by
 unfold tailT
 split
 ·exact⟨43,[48],rfl,.inl rfl,by decide⟩
 ·refine⟨_,_,rfl,?_,λc hc=>?_⟩
  ·split
   ·exact .inr rfl
   ·exact .inl rfl
  ·exact decide_eq_true (decL_digits _ c hc)
theorem frac_all(a:Nat)(h1:a<9218868437227405312):∀c ∈ fracT a,hexB c=true:=by
 unfold fracT
 split
 ·intro c hc;cases hc
 ·rename_i h0
  exact fracL_hex _ (fracOf_spec a h0 h1).1
theorem pos_form(a:Nat)(h1:a<9218868437227405312):∃ (H:List UInt8) (sg:UInt8) (ds:List UInt8),posT a=48::120::(H++112::sg::ds)/\(∀c ∈ H,hexPB c=true)/\(sg=43\/sg=45)/\∀c ∈ ds,digB c=true:=by
 obtain⟨sg,ds,h2,h3,h4⟩:=tail_form a
 refine⟨firstD a::(if fracT a=[] then [] else 46::fracT a),sg,ds,?_,?_,h3,h4⟩
 ·rw[posT_parts a h1,h2];rfl
 ·intro c hc
  rcases List.mem_cons.1 hc with rfl|hc
  ·unfold firstD;split <;> decide
  ·split at hc
   ·cases hc
   ·rcases List.mem_cons.1 hc with rfl|hc
    ·decide
    ·unfold hexPB;rw[frac_all a h1 c hc,Bool.or_true]
theorem dbl_form(H:List UInt8)(sg:UInt8)(ds:List UInt8)(h1:∀c ∈ H,hexPB c=true)(h2:sg=43\/sg=45)(h3:∀c ∈ ds,digB c=true):dblN (48::120::(H++112::sg::ds))=(48::120::(H++112::sg::ds)).length:=by
 have e1:runN hexPB (H++112::sg::ds)=H.length:=run_app _ _ _ h1 (by intro c hc;injection hc with hc;subst hc;decide)
 have e2:powN (112::sg::ds)=2+ds.length:=by
  rcases h2 with rfl|rfl
  ·show 2+runN digB ds=_;rw[run_all _ _ h3]
  ·show 2+runN digB ds=_;rw[run_all _ _ h3]
 have e3:(48::120::(H++112::sg::ds)).drop (2+H.length)=112::sg::ds:=by
  rw[Nat.add_comm]
  show (H++112::sg::ds).drop H.length=_
  rw[List.drop_left]
 unfold dblN
 have e0:(48::120::(H++112::sg::ds)).drop 2=H++112::sg::ds:=rfl
 rw[e0,e1,e3,e2]
 simp
 omega
theorem readF_pos(a:Nat)(h1:a<9218868437227405312):readF (posT a)=((a:Int),0):=by
 have hn:nanB (a:Int)=false:=by unfold nanB;rw[decide_eq_false_iff_not];omega
 have e:fltT (a:Int)=posT a:=by
  unfold fltT
  rw[hn,if_neg (by decide),if_neg (by omega)]
  rfl
 have:=readF_back (a:Int) (by omega) (by omega)
 rw[e] at this
 rw[this]
 unfold fltW
 rw[hn]
 rfl
theorem piece_pos(a:Nat)(h1:a<9218868437227405312):pieceP (posT a)=okPc ⟨5,⟨#[]⟩,0,(a:Int)⟩ (posT a).length:=by
 obtain⟨H,sg,ds,e,h2,h3,h4⟩:=pos_form a h1
 have hr:=readF_pos a h1
 have hd:=dbl_form H sg ds h2 h3 h4
 rw[<- e] at hd
 have g1:(gapP (posT a)).size=0:=by rw[e];exact gap_none 48 _ (by decide) (by decide)
 have g2:nameP (posT a)=noPc:=by rw[e];exact if_pos (.inr (show digB 48=true by decide))
 have g3:doubleP (posT a)=okPc ⟨5,⟨#[]⟩,0,(a:Int)⟩ (posT a).length:=by
  have ht:(posT a).take 2=hexT:=by rw[e];rfl
  unfold doubleP
  rw[if_pos ht,hd,List.take_length,hr,if_pos rfl]
 unfold pieceP
 rw[orPc_none g1,g2,orPc_none (show noPc.size=0 from rfl),g3,orPc_some]
 show ¬ (posT a).length=0
 rw[e]
 simp
section
variable {f a:Nat} {l:List UInt8} {p:Pc}
theorem toksY_end(h:l.length<=a):toksY (f+1) l a=[⟨endTk,a,0,0⟩]:=by unfold toksY;exact if_pos h
theorem toksY_bad(h:¬l.length<=a)(hp:pieceP (l.drop a)=p)(h1:¬p.size=0)(h2:¬p.code=0):toksY (f+1) l a=[⟨noTk,0,p.code,a⟩]:=by
 unfold toksY;rw[if_neg h,hp,if_neg h1,if_pos h2]
theorem toksY_tok(h:¬l.length<=a)(hp:pieceP (l.drop a)=p)(h1:¬p.size=0)(h2:p.code=0)(h3:¬p.t.kind=0):toksY (f+1) l a=⟨p.t,a,0,0⟩::toksY f l (a+p.size):=by
 conv=>lhs;unfold toksY
 rw[if_neg h,hp,if_neg h1,if_neg (by rw[h2];decide),if_pos h3]
end
theorem src_one(l:List UInt8)(t:Tk)(hp:pieceP l=okPc t l.length)(h0:0<l.length)(h1:l.length<=65536)(hk:¬t.kind=0):srcY l=[⟨t,0,0,0⟩,⟨endTk,(l.length:Nat),0,0⟩]:=by
 unfold srcY
 rw[if_neg (by omega)]
 have hp':pieceP (l.drop 0)=okPc t l.length:=hp
 rw[toksY_tok (by omega) hp' (show ¬l.length=0 by omega) rfl hk]
 obtain⟨n,hn⟩:∃n,l.length=n+1:=⟨l.length-1,by omega⟩
 show _::toksY l.length l (0+l.length)=_
 have e:toksY l.length l (0+l.length)=[⟨endTk,(l.length:Nat),0,0⟩]:=by
  have:=toksY_end (f:=n) (l:=l) (a:=0+l.length) (by omega)
  rw[<- hn] at this
  rw[this,Nat.zero_add]
 rw[e]
 rfl
theorem src_minus(r:List UInt8)(h1:r.length+1<=65536):srcY (45::r)=⟨⟨3,bytesOf [45],0,0⟩,0,0,0⟩::toksY (r.length+1) (45::r) 1:=by
 unfold srcY
 rw[if_neg (by simp;omega)]
 have hp:pieceP ((45::r).drop 0)=okPc ⟨3,bytesOf [45],0,0⟩ 1:=piece_minus r
 rw[toksY_tok (by simp) hp (by decide) rfl (by decide)]
 rfl
theorem src_two(r:List UInt8)(t:Tk)(hp:pieceP r=okPc t r.length)(h0:0<r.length)(h1:r.length+1<=65536)(hk:¬t.kind=0):srcY (45::r)=[⟨⟨3,bytesOf [45],0,0⟩,0,0,0⟩,⟨t,1,0,0⟩,⟨endTk,((r.length+1:Nat):Int),0,0⟩]:=by
 rw[src_minus r h1]
 have hp':pieceP ((45::r).drop 1)=okPc t r.length:=hp
 rw[toksY_tok (a:=1) (l:=45::r) (show ¬r.length+1<=1 by omega) hp' (show ¬r.length=0 by omega) rfl hk]
 obtain⟨n,hn⟩:∃n,r.length=n+1:=⟨r.length-1,by omega⟩
 show _::_::toksY r.length (45::r) (1+r.length)=_
 have e:toksY r.length (45::r) (1+r.length)=[⟨endTk,((r.length+1:Nat):Int),0,0⟩]:=by
  have:=toksY_end (f:=n) (l:=45::r) (a:=1+r.length) (by simp;omega)
  rw[<- hn] at this
  rw[this,Nat.add_comm 1]
 rw[e]
 rfl
theorem src_bad(r:List UInt8)(c:Int)(hp:pieceP r=badPc r.length c)(h0:0<r.length)(h1:r.length+1<=65536)(hc:¬c=0):srcY (45::r)=[⟨⟨3,bytesOf [45],0,0⟩,0,0,0⟩,⟨noTk,0,c,1⟩]:=by
 rw[src_minus r h1]
 have hp':pieceP ((45::r).drop 1)=badPc r.length c:=hp
 rw[toksY_bad (a:=1) (l:=45::r) (show ¬r.length+1<=1 by omega) hp' (show ¬r.length=0 by omega) hc]
 rfl
theorem dec_digs(n:Nat):∀c ∈ decL n,digB c=true:=λc hc=>(List.all_eq_true.1 (dec_all n)) c hc
theorem dec_ne(n:Nat):decL n≠[]:=decL_ne n
theorem dec_read(n:Nat)(h:n<9223372036854775808):readI (decL n)=((n:Int),0):=by
 have e:intT (n:Int)=decL n:=by unfold intT;rw[if_neg (by omega)];simp
 have:=readI_back (n:Int) (by omega) (by omega)
 rwa [e] at this
theorem readI_digs(d:List UInt8)(hd:∀c ∈ d,digB c=true):readI d=if 64<d.length then (0,2) else readD false d:=by
 unfold readI
 split
 ·rfl
 ·split
  ·rename_i q
   exact absurd (hd 45 (by simp)) (by decide)
  ·rfl
theorem dec_min(n:Nat)(h:9223372036854775808<=n):pieceP (decL n)=badPc (decL n).length 62:=by
 rw[piece_digits _ (dec_digs _) (dec_ne _)]
 refine if_neg ?_
 rw[readI_digs _ (dec_digs _)]
 split
 ·decide
 ·unfold readD
  split
  ·rw[if_neg (by rw[if_neg (by decide),valD_dec];omega)]
   decide
  ·decide
theorem pos_piece(a:Nat)(h:a<=9218868437227405312):pieceP (posT a)=okPc ⟨5,⟨#[]⟩,0,(a:Int)⟩ (posT a).length:=by
 by_cases c:a=9218868437227405312
 ·subst c
  have e:posT 9218868437227405312=infT:=if_pos rfl
  rw[e]
  exact piece_inf
 ·exact piece_pos a (by omega)
inductive NumY (b:Bool) (i u:Int) (l:List UInt8):Prop where
 | least (h1:b=true) (h2:i = -9223372036854775808) (h3:srcY l=[⟨⟨3,bytesOf [45],0,0⟩,0,0,0⟩,⟨noTk,0,62,1⟩]):NumY b i u l
 | minus (t:Tk) (r:List UInt8) (h1:b=true->i ≠ -9223372036854775808) (h2:l=45::r) (h3:srcY l=[⟨⟨3,bytesOf [45],0,0⟩,0,0,0⟩,⟨t,1,0,0⟩,⟨endTk,(l.length:Nat),0,0⟩]):NumY b i u l
 | plain (t:Tk) (h1:b=true->i ≠ -9223372036854775808) (h2:l.head? ≠ some 45) (h3:srcY l=[⟨t,0,0,0⟩,⟨endTk,(l.length:Nat),0,0⟩]) (h4:b=true->t.kind=4/\t.int=i) (h5:b=false->t.kind=5/\t.bits=(readF l).1):NumY b i u l
theorem num_y(b:Bool)(i u:Int)(i0:-9223372036854775808<=i)(i1:i<=9223372036854775807)(u0:0<=u)(u1:u<18446744073709551616):NumY b i u (numT b i u)/\0<(numT b i u).length/\(numT b i u).length<=64:=by
 cases b with
 | true=>
  have e:numT true i u=intT i:=rfl
  rw[e]
  have hl:=int_len i i0 (by omega)
  have hne:∀n,0<(decL n).length:=λn=>by
   have:=dec_ne n
   cases h:decL n with
   | nil=>exact absurd h this
   | cons a q=>simp
  by_cases c:i<0
  ·have e2:intT i=45::decL i.natAbs:=if_pos c
   rw[e2] at hl ⊢
   refine⟨?_,by simp,by omega⟩
   by_cases c2:i = -9223372036854775808
   ·refine .least rfl c2 (src_bad _ 62 ?_ (hne _) (by simp at hl;omega) (by decide))
    subst c2
    exact dec_min _ (by decide)
   ·refine .minus ⟨4,⟨#[]⟩,(i.natAbs:Int),0⟩ _ (λ_=>c2) rfl ?_
    ·have:=src_two (decL i.natAbs) ⟨4,⟨#[]⟩,(i.natAbs:Int),0⟩ (by rw[piece_digits _ (dec_digs _) (dec_ne _),dec_read _ (by omega)];rfl) (hne _) (by simp at hl;omega) (show ¬ (4:Int)=0 by decide)
     rw[this]
     simp
  ·have e2:intT i=decL i.natAbs:=if_neg c
   rw[e2] at hl ⊢
   refine⟨?_,hne _,by omega⟩
   refine .plain ⟨4,⟨#[]⟩,(i.natAbs:Int),0⟩ (λ_=>by omega) ?_ ?_ (λ_=>⟨rfl,by show (i.natAbs:Int)=i;omega⟩) (λh=>by cases h)
   ·intro h
    cases hd:decL i.natAbs with
    | nil=>rw[hd] at h;cases h
    | cons a q=>
     rw[hd] at h
     simp at h
     have:=dec_digs i.natAbs a (by rw[hd];simp)
     subst h
     revert this
     decide
   ·exact src_one _ _ (by rw[piece_digits _ (dec_digs _) (dec_ne _),dec_read _ (by omega)];rfl) (hne _) (by omega) (show ¬ (4:Int)=0 by decide)
 | false=>
  have e:numT false i u=fltT u:=rfl
  rw[e]
  have hl:=flt_len u u0 u1
  have hrf:=readF_back u u0 u1
  unfold fltT at hl hrf ⊢
  by_cases c:nanB u=true
  ·rw[if_pos c] at hl hrf ⊢
   refine⟨.plain _ (λh=>by cases h) (by decide) (src_one _ _ piece_nan (by decide) (by decide) (by decide)) (λh=>by cases h) (λ_=>⟨rfl,?_⟩),by decide,by decide⟩
   kernel_rfl
  ·rw[if_neg c] at hl hrf ⊢
   have nb:u%9223372036854775808<=9218868437227405312:=by
    unfold nanB at c
    simp only[decide_eq_true_eq,Int.not_lt] at c
    exact c
   have hpl:∀n,0<(posT n).length:=λn=>by rcases posT_head n with h|h <;> (cases hq:posT n <;> simp_all)
   by_cases c2:9223372036854775808<=u
   ·rw[if_pos c2] at hl hrf ⊢
    refine⟨?_,by simp,by omega⟩
    refine .minus ⟨5,⟨#[]⟩,0,((u-9223372036854775808).toNat:Int)⟩ _ (λh=>by cases h) rfl ?_
    have:=src_two (posT (u-9223372036854775808).toNat) _ (pos_piece _ (by omega)) (hpl _) (by simp at hl;omega) (show ¬ (5:Int)=0 by decide)
    rw[this]
    simp
   ·rw[if_neg c2] at hl hrf ⊢
    refine⟨?_,hpl _,by omega⟩
    refine .plain ⟨5,⟨#[]⟩,0,(u.toNat:Int)⟩ (λh=>by cases h) ?_ (src_one _ _ (pos_piece _ (by omega)) (hpl _) (by omega) (show ¬ (5:Int)=0 by decide)) (λh=>by cases h) (λ_=>⟨rfl,?_⟩)
    ·rcases posT_head u.toNat with h|h <;> rw[h] <;> decide
    ·rw[hrf]
     show (u.toNat:Int)=fltW u
     unfold fltW
     rw[if_neg c]
     omega
open Go.ChangeShapes Go.WideShapes Go.RowKit Go.Shelf
def TokRow(W:World)(B g cap:Nat)(Ys:List Yd):Prop:=B<=g/\g<W.heap.size/\Ys.length<=cap/\∀k,k<5*Ys.length->W.cell? ⟨g,k,none⟩=(rowsY Ys)[k]?
theorem TokRow.below{W W':World}{B g cap:Nat}{Ys:List Yd}(h:TokRow W B g cap Ys)(hB:Below W.heap.size W W'):TokRow W' B g cap Ys:=
 ⟨h.1,Nat.lt_of_lt_of_le h.2.1 hB.size,h.2.2.1,λk hk=>(hB.cell (p:=⟨g,k,none⟩) h.2.1).trans (h.2.2.2 k hk)⟩
theorem all_good(s:ByteArray)(hs:s.size<=1000000)(Ys:List Yd)(hY:srcY s.data.toList=Ys)(h0:∀y ∈ Ys,y.c=0)(hn:0<Ys.length)(w:World)(ht:Tabs w)(hm:MarksIn w) :
  Calls prog 9 #[.string s] w λe w'=>Below w.heap.size w w'/\∃g cap,e=.returned (.tuple #[.slice (some ⟨g,0,none⟩) Ys.length cap,.agg #[.int .i64 0,.int .i64 0]])/\TokRow w' w.heap.size g cap Ys:=by
 refine(all_c s hs w ht hm).mono ?_
 rintro e w' ⟨hB,h⟩
 rw[hY] at h
 rcases h with⟨y,h1,_⟩|⟨_,v,he,hown⟩
 ·have:=List.find?_some h1
  have hm:=z1z h1
  rw[h0 y hm] at this
  cases this
 ·refine⟨hB,?_⟩
  rcases hown.2 with⟨_,e0⟩|⟨g,cap,cur,rfl,h2,h3,h4,h5,h6,h7⟩
  ·omega
  ·refine⟨g,cap,he,h2,(Array.getElem?_eq_some_iff.1 h3).1,h4,λk hk=>?_⟩
   rw[cell_of_row _ g k _ _ _ h3,<- h7,List.getElem?_take,if_pos (by omega),Array.getElem?_toList]
theorem all_bad(s:ByteArray)(hs:s.size<=1000000)(y:Yd)(hY:(srcY s.data.toList).find? (λy=>y.c != 0)=some y)(w:World)(ht:Tabs w)(hm:MarksIn w) :
  Calls prog 9 #[.string s] w λe w'=>Below w.heap.size w w'/\e=.returned (.tuple #[.slice none 0 0,.agg #[.int .i64 y.c,.int .i64 y.f]]):=by
 refine(all_c s hs w ht hm).mono ?_
 rintro e w' ⟨hB,h⟩
 rcases h with⟨z,h1,h2⟩|⟨h0,_⟩
 ·obtain rfl:=Option.some.inj (hY.symm.trans h1)
  exact⟨hB,h2⟩
 ·have:=List.find?_some hY
  rw[h0 y (z1z hY)] at this
  cases this
def awakeY:List Yd:=[⟨⟨2,⟨#[108,101,116]⟩,0,0⟩,0,0,0⟩,⟨⟨1,⟨#[120]⟩,0,0⟩,4,0,0⟩,⟨⟨3,⟨#[61]⟩,0,0⟩,5,0,0⟩,⟨⟨4,⟨#[]⟩,1,0⟩,6,0,0⟩,⟨⟨3,⟨#[46,46]⟩,0,0⟩,7,0,0⟩,⟨⟨4,⟨#[]⟩,2,0⟩,9,0,0⟩,⟨endTk,14,0,0⟩]
theorem awake_src:srcY [108,101,116,32,120,61,49,46,46,50,32,35,32,121]=awakeY:=by kernel_rfl
theorem awake11_c(w:World)(ht:Tabs w)(hm:MarksIn w):Calls prog 12 #[] w λe w'=>e=.returned (.bool true)/\Below w.heap.size w w':=by
 have ca:=all_good ⟨#[108,101,116,32,120,61,49,46,46,50,32,35,32,121]⟩ (by decide) awakeY awake_src (by decide) (by decide) w ht hm
 clear ht hm
 have e7:awakeY.length=7:=rfl
 rw[e7] at ca
 clear e7
 go_enter func12,ntmps12
 go_wp2_with (go_at_call 9;(with_reducible refine ca.mono ?_);rintro e w2 ⟨hB2,g,cap,rfl,hr⟩;(obtain⟨r1,r2,r3,r4⟩:=hr.below ((z0z _ w2).alloc (Nat.le_refl _) (.cells #[.int .i64 0,.int .i64 0] 25)));(have hb:=hid hB2);(have rr:=hid (And.intro r1 (And.intro r2 r3)));(have c5:(w2.alloc (.cells #[.int .i64 0,.int .i64 0] 25)).cell? ⟨g,5,none⟩=some (.int .i64 1):=r4 5 (by decide));(have c6:(w2.alloc (.cells #[.int .i64 0,.int .i64 0] 25)).cell? ⟨g,6,none⟩=some (.int .i64 4):=r4 6 (by decide));(have c7:(w2.alloc (.cells #[.int .i64 0,.int .i64 0] 25)).cell? ⟨g,7,none⟩=some (.string ⟨#[120]⟩):=r4 7 (by decide));(have c8:(w2.alloc (.cells #[.int .i64 0,.int .i64 0] 25)).cell? ⟨g,8,none⟩=some (.int .i64 0):=r4 8 (by decide));(have c9:(w2.alloc (.cells #[.int .i64 0,.int .i64 0] 25)).cell? ⟨g,9,none⟩=some (.int .u64 0):=r4 9 (by decide));(have d0:(w2.alloc (.cells #[.int .i64 0,.int .i64 0] 25)).cell? ⟨g,20,none⟩=some (.int .i64 3):=r4 20 (by decide));(have d1:(w2.alloc (.cells #[.int .i64 0,.int .i64 0] 25)).cell? ⟨g,21,none⟩=some (.int .i64 7):=r4 21 (by decide));(have d2:(w2.alloc (.cells #[.int .i64 0,.int .i64 0] 25)).cell? ⟨g,22,none⟩=some (.string ⟨#[46,46]⟩):=r4 22 (by decide));(have d3:(w2.alloc (.cells #[.int .i64 0,.int .i64 0] 25)).cell? ⟨g,23,none⟩=some (.int .i64 0):=r4 23 (by decide));(have d4:(w2.alloc (.cells #[.int .i64 0,.int .i64 0] 25)).cell? ⟨g,24,none⟩=some (.int .u64 0):=r4 24 (by decide));(have f0:(w2.alloc (.cells #[.int .i64 0,.int .i64 0] 25)).cell? ⟨g,30,none⟩=some (.int .i64 7):=r4 30 (by decide));(have f1:(w2.alloc (.cells #[.int .i64 0,.int .i64 0] 25)).cell? ⟨g,31,none⟩=some (.int .i64 14):=r4 31 (by decide));clear r1 r2 r3 r4 hB2 ca)
 go_ret
 exact⟨by simp,(hb.out.alloc hb.out.size _)⟩
structure BW (w:World) where
 w':World
 h:Below w.heap.size w w'
theorem wp_region_quiet_below{id:Nat}{Q:Exit->Act->World->Prop}{a:Act}{w:World}{l:List Oper}(hm:prog.follows .mixedOrders=true)(hB:Region.lexB .any l.toArray=true)
  (h:wpQuiet prog l.toArray (λw'=>∃p:BW w,w'=p.w') (λa'=>∀w',(∃p:BW w,w'=p.w')->Q .normal a' w') l a):(Code.region id l.toArray true).wp prog Q a w:=
 wp_region_quiet (C:=λw'=>∃p:BW w,w'=p.w') hm hB ⟨⟨w.drew,(z0z _ w).drew⟩,rfl⟩ (by simpa using h)
theorem BW.calls{P:Program}{f:FuncId}{args:Array Value}{w:World}{p:BW w}{v:Value}(h:Calls P f args p.w' λe w'=>e=.returned v/\Below p.w'.heap.size p.w' w'):Calls P f args p.w' λe w''=>e=.returned v/\∃p':BW w,w''=p'.w':=
 h.mono λ_ w'' ⟨he,hB⟩=>⟨he,⟨w'',p.h.trans (hB.mono p.h.size)⟩,rfl⟩
theorem BW.cell{w:World}{a:Addr}{v:Value}(h:w.cell? a=some v)(p:BW w):p.w'.cell? a=some v:=It.below_cell p.h h
structure Sx (w W:World):Prop where
 bel:Below w.heap.size w W
 tabs:Tabs W
 marks:MarksIn W
theorem Sx.go{w W W':World}(h:Sx w W)(hb:Below W.heap.size W W'):Sx w W':=⟨h.bel.trans (hb.mono h.bel.size),h.tabs.below hb,h.marks.below hb⟩
theorem Sx.alloc{w W:World}(h:Sx w W)(o:Obj):Sx w (W.alloc o):=h.go ((z0z _ W).alloc (Nat.le_refl _) o)
theorem Sx.refl{w:World}(ht:Tabs w)(hm:MarksIn w):Sx w w:=⟨z0z _ w,ht,hm⟩
structure Blk (w:World) (b:Nat) (c:Array Value):Prop where
 lt:b<w.heap.size
 cells:∀i,w.cell? ⟨b,i,none⟩=c[i]?
theorem Blk.go{w w2:World}{b:Nat}{c:Array Value}(h:Blk w b c)(hb:Below w.heap.size w w2):Blk w2 b c:=
 ⟨Nat.lt_of_lt_of_le h.lt hb.size,λi=>by rw[hb.cell h.lt];exact h.cells i⟩
theorem Blk.alloc{w:World}{b:Nat}{c:Array Value}(h:Blk w b c)(o:Obj):Blk (w.alloc o) b c:=h.go ((z0z _ _).alloc (Nat.le_refl _) o)
theorem Blk.new(w:World)(c:Array Value)(t:TypeId):Blk (w.alloc (.cells c t)) w.heap.size c:=⟨by simp,λ_=>World.cell?_alloc_new w _ _ _⟩
theorem str_len(l:List UInt8):(⟨l.toArray⟩:ByteArray).size=l.length:=by rw[<- size_list]
end Go.Proofs.YtknkedihmmbanaaDoor.W
