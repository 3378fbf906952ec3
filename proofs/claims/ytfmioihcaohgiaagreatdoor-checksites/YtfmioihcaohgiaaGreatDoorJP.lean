import Derived.Test.YtfmioihcaohgiaaGreatDoorJO
import Derived.Laws.EntriesVeiled
import Derived.Scope
open List renaming length_drop → z2z
open Nat renaming le_refl → z1z, zero_le → z5z, le_add_right → z9z
open Go.World renaming alloc_heap_new → z4z, size_alloc → z8z
open Go.RowKit.Below renaming refl → z0z
open Go.IntKind renaming i64 → z6z, wrap_i64 → z7z
open And renaming intro → z3z
open Go.Proofs.Tryz
set_option maxRecDepth 1000000
set_option maxHeartbeats 8000000
namespace Go.Proofs.YtfmioihcaohgiaaGreatDoor.W
open Go.ChangeShapes Go.WideShapes Go.RowKit Go.Shelf
set_option linter.unusedVariables false
def yv(t:Tk)(a c fa:Int):Array Value:=#[tv t a,.agg #[.int .i64 c,.int .i64 fa]]
def endTk:Tk:=⟨7,⟨#[]⟩,0,0⟩
def toksP:Nat→List UInt8→Nat→List (Array Value)
 | 0,_,_=>[]
 | f+1,l,a=>if l.length≤a then [yv endTk a 0 0] else
  if (pieceP (l.drop a)).size=0 then [yv noTk 0 60 a] else
  if (pieceP (l.drop a)).code≠0 then [yv noTk 0 (pieceP (l.drop a)).code a] else
  if (pieceP (l.drop a)).t.kind≠0 then yv (pieceP (l.drop a)).t a 0 0::toksP f l (a+(pieceP (l.drop a)).size) else toksP f l (a+(pieceP (l.drop a)).size)
def valsP(l:List UInt8):List (Array Value):=if 65536<l.length then [yv noTk 0 2 0] else toksP (l.length+1) l 0
section
variable {f a:Nat} {l:List UInt8} {p:Pc}
theorem toks_end(h:l.length≤a):toksP (f+1) l a=[yv endTk a 0 0]:=by unfold toksP;exact if_pos h
theorem toks_none(h:¬l.length≤a)(hp:pieceP (l.drop a)=p)(h1:p.size=0):toksP (f+1) l a=[yv noTk 0 60 a]:=by
 unfold toksP;rw[if_neg h,hp,if_pos h1]
theorem toks_bad(h:¬l.length≤a)(hp:pieceP (l.drop a)=p)(h1:¬p.size=0)(h2:¬p.code=0):toksP (f+1) l a=[yv noTk 0 p.code a]:=by
 unfold toksP;rw[if_neg h,hp,if_neg h1,if_pos h2]
theorem toks_tok(h:¬l.length≤a)(hp:pieceP (l.drop a)=p)(h1:¬p.size=0)(h2:p.code=0)(h3:¬p.t.kind=0):toksP (f+1) l a=yv p.t a 0 0::toksP f l (a+p.size):=by
 conv=>lhs;unfold toksP
 rw[if_neg h,hp,if_neg h1,if_neg (by rw[h2];decide),if_pos h3]
theorem toks_gap(h:¬l.length≤a)(hp:pieceP (l.drop a)=p)(h1:¬p.size=0)(h2:p.code=0)(h3:p.t.kind=0):toksP (f+1) l a=toksP f l (a+p.size):=by
 conv=>lhs;unfold toksP
 rw[if_neg h,hp,if_neg h1,if_neg (by rw[h2];decide),if_neg (by rw[h3];decide)]
end
theorem piece_at(l:List UInt8):(¬ (gapP l).size=0→pieceP l=gapP l)∧((gapP l).size=0→(¬ (nameP l).size=0→pieceP l=nameP l)∧((nameP l).size=0→(¬ (doubleP l).size=0→pieceP l=doubleP l)∧((doubleP l).size=0→(¬ (wholeP l).size=0→pieceP l=wholeP l)∧((wholeP l).size=0→(¬ (quotedP l).size=0→pieceP l=quotedP l)∧((quotedP l).size=0→pieceP l=markP l))))):=by
 unfold pieceP orPc
 refine⟨fun h=>if_neg h,fun h0=>⟨fun h=>?_,fun h1=>⟨fun h=>?_,fun h2=>⟨fun h=>?_,fun h3=>⟨fun h=>?_,fun h4=>?_⟩⟩⟩⟩⟩
 ·rw[if_pos h0,if_neg h]
 ·rw[if_pos h0,if_pos h1,if_neg h]
 ·rw[if_pos h0,if_pos h1,if_pos h2,if_neg h]
 ·rw[if_pos h0,if_pos h1,if_pos h2,if_pos h3,if_neg h]
 ·rw[if_pos h0,if_pos h1,if_pos h2,if_pos h3,if_pos h4]
theorem rdT:∃d,prog.underlying 112=some d∧(match d with | .struct _ | .array _ _=>true|_=>false)=true:=by
 have h:(prog.underlying 112).map (fun d=>match d with | .struct _ | .array _ _=>true|_=>false)=some true:=by kernel_rfl
 cases hu:prog.underlying 112 with
 | none=>rw[hu] at h;cases h
 | some d=>rw[hu] at h;injection h with h;exact⟨d,rfl,h⟩
theorem rdSz:(prog.info? 112).map (·.size)=some 6:=by kernel_rfl
theorem rd_ret{fn:Func}{p:Tmp}(h:fn.results = #[.cell p 112])(tmps:Array Value)(w:World)(gb:Nat)(v0 v1 v2 v3 v4 v5:Value)(fr:Nat × Nat)(hp:tmps.getD p undef=.pointer (some ⟨gb,0,none⟩))(hg:w.heap[gb]? = some (.cells #[v0,v1,v2,v3,v4,v5] 112 fr)):(results fn tmps).run prog w=.ok (.agg #[v0,v1,v2,v3,v4,v5]) w:=by
 obtain⟨d,hu,hd⟩:=rdT
 exact results_cell_row h tmps w gb _ _ fr d hp hg hu (by cases d <;> first|rfl|exact hd) (by rw[rdSz];rfl)
theorem readers_c(w:World):Calls prog 61 #[] w fun e w'=>e=.returned (.agg #[.func (.func 95) #[] #[],.func (.func 96) #[] #[],.func (.func 97) #[] #[],.func (.func 98) #[] #[],.func (.func 99) #[] #[],.func (.func 100) #[] #[]])∧Below w.heap.size w w':=by
 go_enter func61,ntmps61
 go_wp2
 refine bodyPost_ret (rd_ret rfl _ _ w.heap.size _ _ _ _ _ _ (0,0) rfl (z4z w _)) rfl ?_
 exact⟨rfl,(z0z _ w).alloc (z1z _) _⟩
theorem tokens_c(s:ByteArray)(w:World):Calls prog 33 #[.string s] w fun e w'=>e=.returned (.func (.func 60) #[] #[.pointer (some ⟨w.heap.size,0,none⟩)])∧w'=w.alloc (.cells #[.string s] 9):=by
 go_enter func33,ntmps33
 go_wp2
 go_ret
 exact⟨rfl,rfl⟩
theorem get_of_drop{α:Type}{l:List α}{i:Nat}{x:α}{r:List α}(h:l.drop i=x::r):∃hi:i<l.length,l[i]=x∧l.drop (i+1)=r:=by
 have hi:i<l.length:=by
  rcases Nat.lt_or_ge i l.length with c|c
  ·exact c
  ·rw[List.drop_eq_nil_of_le c] at h;cases h
 rw[List.drop_eq_getElem_cons hi] at h
 injection h with h1 h2
 exact⟨hi,h1,h2⟩
theorem quoteGo_le(f:Nat):∀ (r:List UInt8) (n:Nat) (acc:List UInt8),(quoteGo f r n acc).size≤n+r.length:=by
 induction f with
 | zero=>intro r n acc;exact z9z _ _
 | succ f ih=>
  intro r n acc
  cases r with
  | nil=>rw[quote_end];exact z9z _ _
  | cons c r=>
   by_cases h:c=34
   ·rw[quote_stop _ _ _ _ _ (Nat.succ_pos _) h];show n+1≤n+(r.length+1);omega
   ·by_cases h2:(speltP (c::r)).2=0
    ·rw[quote_bad _ _ _ _ _ (Nat.succ_pos _) h h2];exact z9z _ _
    ·rw[quote_on _ _ _ _ _ h h2]
     refine Nat.le_trans (ih _ _ _) ?_
     have:=(speltP_lt (c::r)).2
     rw[z2z]
     omega
theorem piece_le(l:List UInt8):(pieceP l).size≤l.length:=by
 have hg:(gapP l).size≤l.length:=by
  show gapN l≤_
  unfold gapN
  split
  ·exact runN_le _ _
  ·exact runN_le _ _
 have hn:(nameP l).size≤l.length:=by
  unfold nameP
  split
  ·exact z5z _
  ·split
   ·exact runN_le _ _
   ·exact runN_le _ _
 have hd:(doubleP l).size≤l.length:=by
  unfold doubleP
  split
  ·rename_i c
   have h2:2≤l.length:=by
    have:=congrArg List.length c
    rw[List.length_take] at this
    have e2:hexT.length=2:=rfl
    omega
   split
   ·exact(dblN_le l h2).2
   ·exact(dblN_le l h2).2
  ·exact z5z _
 have hw:(wholeP l).size≤l.length:=by
  unfold wholeP
  split
  ·exact z5z _
  ·split
   ·exact runN_le _ _
   ·exact runN_le _ _
 have hq:(quotedP l).size≤l.length:=by
  unfold quotedP
  split
  ·rename_i c
   have h1:1≤l.length:=by
    cases l with
    | nil=>cases c
    | cons a r=>simp
   rcases qd_cases (quoteGo l.length (l.drop 1) 1 []) with e|⟨_,e⟩
   ·rw[e]
    refine Nat.le_trans (quoteGo_le _ _ _ _) ?_
    rw[z2z]
    omega
   ·rw[e]
    exact h1
  ·exact z5z _
 have hm:(markP l).size≤l.length:=by
  unfold markP
  split
  ·rename_i m e
   have:=List.find?_some e
   have h2:l.take m.length=m:=by simpa using this
   show m.length≤_
   rw[← h2,List.length_take]
   omega
  ·exact z5z _
 unfold pieceP orPc
 repeat (first|assumption|(split <;> first|assumption|skip))
theorem below_two'{A B C:World}(h:Below A.heap.size A B)(g:Below B.heap.size B C):Below A.heap.size A C:=h.trans (g.mono h.size)
def IterD(gf:Nat)(lb:Array Value)(vals:List (Array Value))(G:World→Prop):Prop:=
 ∀ (n l:Nat) (J:Nat→(Nat→Prop)→World→Prop) (X:World→Prop),1≤n→(∀i D W,J i D W→G W∧∀k,D k→k<W.heap.size)→(∀i D W W',J i D W→Below W.heap.size W W'→J i D W') →
  (∀i (hi:i<vals.length) D W,J i D W→YieldAt Fence.wide (n-1) prog l vals[i] W fun e W'=>(e=.returned (.bool true)∧(∃D',J (i+1) D' W')∧(∀k,k<W.heap.size→¬D k→W'.heap[k]? = W.heap[k]?))∨(e=.returned (.bool false)∧X W')) →
  ∀D W,J 0 D W→CallsIn Fence.wide n prog gf (#[.func (.yield l) #[] #[]]++lb) W fun e W'=>(∃v,e=.returned v)∧((∃D',J vals.length D' W')∨X W')
theorem last_of_drop{α:Type}{l:List α}{i:Nat}{x:α}(h:l.drop i=[x]):∃hi:i<l.length,l[i]=x∧i+1=l.length:=by
 obtain⟨hi,h1,h2⟩:=get_of_drop h
 refine⟨hi,h1,?_⟩
 have:=List.drop_eq_nil_iff.1 h2
 omega
theorem rdx0(w:World):(Instr.index 112 (.agg #[.func (.func 95) #[] #[],.func (.func 96) #[] #[],.func (.func 97) #[] #[],.func (.func 98) #[] #[],.func (.func 99) #[] #[],.func (.func 100) #[] #[]]) (.int .i64 0)).run prog w=.ok (.func (.func 95) #[] #[]) w:=by kernel_rfl
theorem rdx1(w:World):(Instr.index 112 (.agg #[.func (.func 95) #[] #[],.func (.func 96) #[] #[],.func (.func 97) #[] #[],.func (.func 98) #[] #[],.func (.func 99) #[] #[],.func (.func 100) #[] #[]]) (.int .i64 1)).run prog w=.ok (.func (.func 96) #[] #[]) w:=by kernel_rfl
theorem rdx2(w:World):(Instr.index 112 (.agg #[.func (.func 95) #[] #[],.func (.func 96) #[] #[],.func (.func 97) #[] #[],.func (.func 98) #[] #[],.func (.func 99) #[] #[],.func (.func 100) #[] #[]]) (.int .i64 2)).run prog w=.ok (.func (.func 97) #[] #[]) w:=by kernel_rfl
theorem rdx3(w:World):(Instr.index 112 (.agg #[.func (.func 95) #[] #[],.func (.func 96) #[] #[],.func (.func 97) #[] #[],.func (.func 98) #[] #[],.func (.func 99) #[] #[],.func (.func 100) #[] #[]]) (.int .i64 3)).run prog w=.ok (.func (.func 98) #[] #[]) w:=by kernel_rfl
theorem rdx4(w:World):(Instr.index 112 (.agg #[.func (.func 95) #[] #[],.func (.func 96) #[] #[],.func (.func 97) #[] #[],.func (.func 98) #[] #[],.func (.func 99) #[] #[],.func (.func 100) #[] #[]]) (.int .i64 4)).run prog w=.ok (.func (.func 99) #[] #[]) w:=by kernel_rfl
theorem rdx5(w:World):(Instr.index 112 (.agg #[.func (.func 95) #[] #[],.func (.func 96) #[] #[],.func (.func 97) #[] #[],.func (.func 98) #[] #[],.func (.func 99) #[] #[],.func (.func 100) #[] #[]]) (.int .i64 5)).run prog w=.ok (.func (.func 100) #[] #[]) w:=by kernel_rfl
theorem toks_in(s:ByteArray)(hs:s.size≤65536)(sb:Nat):IterD 60 #[.pointer (some ⟨sb,0,none⟩)] (valsP s.data.toList) (fun W=>W.cell? ⟨sb,0,none⟩=some (.string s)∧Tabs W∧MarksIn W):=by
 intro n l J X hn hL hB hY D0 W h0
 have ev:valsP s.data.toList=toksP (s.size+1) s.data.toList 0:=by
  unfold valsP
  rw[if_neg (by rw[size_list];omega),size_list]
 show CallsIn Fence.wide n prog 60 #[.func (.yield l) #[] #[],.pointer (some ⟨sb,0,none⟩)] W fun e W'=>(∃v,e=.returned v)∧((∃D',J (valsP s.data.toList).length D' W')∨X W')
 obtain⟨⟨g0,-,-⟩,-⟩:=hL 0 D0 W h0
 have b1:¬ (s.size:Int)>65536:=by omega
 have HS:=hid hs
 have V0:=hid (show (valsP s.data.toList).drop 0=toksP (s.size+1) s.data.toList 0 from ev)
 clear ev hs
 generalize valsP s.data.toList=vals at *
 have HL:=hid hL
 have HBe:=hid hB
 have HY:=hid hY
 have H0:=hid h0
 refine callsIn_of_wp func60 rfl trivial ?_ rfl
 simp only[ntmps60,List.size_toArray,List.length_cons,List.length_nil,Nat.reduceAdd,Nat.reduceSub,Array.replicate_succ,Array.replicate_zero,List.push_toArray,List.append_toArray,List.nil_append,List.cons_append]
 clear hY hL hB h0
 refine wpIn_wide.2 ?_
 refine wp_scope_straight ?_
 go_wp2_with (refine wp_label ?_)
 go_loopw [3,5,6] (fun at' _ _ wr=>∃ (a f i:Nat) (D:Nat→Prop),at'=.int .i64 a∧a≤s.size∧s.size<a+f∧vals.drop i=toksP f s.data.toList a∧J i D wr) (fun at' _ _ _=>s.size-(intOf at').toNat)
 case atStart=>exact⟨0,s.size+1,0,D0,rfl,z5z _,by omega,V0.out,H0.out⟩
 case round=>
  obtain⟨a,f,i,D,rfl,ha,hf,hv,hJ⟩:=hrel
  clear V0 H0 g0
  have gr:=(HL.out i D wr hJ).1.1
  by_cases c:a<s.size
  ·have c':(a:Int)<s.size:=by omega
   have SC:Hid (∀w,Below wr.heap.size wr w→w.cell? ⟨sb,0,none⟩=some (.string s)):=hid (fun w h=>(HL.out i D w (HBe.out i D wr w hJ h)).1.1)
   obtain⟨t,ht⟩:∃t,s.extract a s.size=t:=⟨_,rfl⟩
   have tl:t.data.toList=s.data.toList.drop a:=by rw[← ht,cut_from]
   have tz:t.size=s.size-a:=by rw[← size_list t,tl,z2z,size_list]
   have t0:0<t.size:=by omega
   have t1:t.size≤1000000:=by have:=HS.out;omega
   have tm:t.size≤maxLen:=Nat.le_trans t1 (by decide)
   have TT:∀w,Below wr.heap.size wr w→Tabs w∧MarksIn w:=fun w h=>(HL.out i D w (HBe.out i D wr w hJ h)).1.2
   obtain⟨p0,hp0⟩:∃p,gapP (s.data.toList.drop a)=p:=⟨_,rfl⟩
   obtain⟨p1,hp1⟩:∃p,nameP (s.data.toList.drop a)=p:=⟨_,rfl⟩
   obtain⟨p2,hp2⟩:∃p,doubleP (s.data.toList.drop a)=p:=⟨_,rfl⟩
   obtain⟨p3,hp3⟩:∃p,wholeP (s.data.toList.drop a)=p:=⟨_,rfl⟩
   obtain⟨p4,hp4⟩:∃p,quotedP (s.data.toList.drop a)=p:=⟨_,rfl⟩
   obtain⟨p5,hp5⟩:∃p,markP (s.data.toList.drop a)=p:=⟨_,rfl⟩
   obtain⟨q0,q1⟩:=piece_at (s.data.toList.drop a)
   rw[hp0,hp1,hp2,hp3,hp4,hp5] at q1
   rw[hp0] at q0
   have EP0:=hid q0
   have EP1:=hid (fun z0=>(q1 z0).1)
   have EP2:=hid (fun z0 z1=>((q1 z0).2 z1).1)
   have EP3:=hid (fun z0 z1 z2=>(((q1 z0).2 z1).2 z2).1)
   have EP4:=hid (fun z0 z1 z2 z3=>((((q1 z0).2 z1).2 z2).2 z3).1)
   have EP5:=hid (fun z0 z1 z2 z3 z4=>((((q1 z0).2 z1).2 z2).2 z3).2 z4)
   have C0:Hid (∀w,Below wr.heap.size wr w→Calls prog 95 #[.string t] w fun e w'=>e=.returned (pv p0)∧Below w.heap.size w w'):=hid (fun w h=>by have:=gap_c t t0 tm w;rw[tl,hp0] at this;exact this)
   have C1:Hid (∀w,Below wr.heap.size wr w→Calls prog 96 #[.string t] w fun e w'=>e=.returned (pv p1)∧Below w.heap.size w w'):=hid (fun w h=>by have:=name_c t t0 t1 w (TT w h).1;rw[tl,hp1] at this;exact this)
   have C2:Hid (∀w,Below wr.heap.size wr w→Calls prog 97 #[.string t] w fun e w'=>e=.returned (pv p2)∧Below w.heap.size w w'):=hid (fun w h=>by have:=lexDouble_c t t1 w (TT w h).1;rw[tl,hp2] at this;exact this)
   have C3:Hid (∀w,Below wr.heap.size wr w→Calls prog 98 #[.string t] w fun e w'=>e=.returned (pv p3)∧Below w.heap.size w w'):=hid (fun w h=>by have:=whole_c t tm w;rw[tl,hp3] at this;exact this)
   have C4:Hid (∀w,Below wr.heap.size wr w→Calls prog 99 #[.string t] w fun e w'=>e=.returned (pv p4)∧Below w.heap.size w w'):=hid (fun w h=>by have:=quoted_c t t0 t1 w;rw[tl,hp4] at this;exact this)
   have C5:Hid (∀w,Below wr.heap.size wr w→Calls prog 100 #[.string t] w fun e w'=>e=.returned (pv p5)∧Below w.heap.size w w'):=hid (fun w h=>by have:=mark_c t t1 w (TT w h).2;rw[tl,hp5] at this;exact this)
   have A2:=hid (z3z ha (z3z hf (z3z hv hJ)))
   have crd:=readers_c wr
   clear tl tz t0 t1 tm TT q0 q1 hp0 hp1 hp2 hp3 hp4 hp5 ha hf hv hJ
   go_upto_region 5 with(go_at_call 61;(with_reducible refine crd.mono ?_);rintro e Wn ⟨rfl,hBr⟩;clear crd)
   have sc2:=SC.out Wn hBr
   have HW:=hid hBr
   clear hBr gr
   have rx0:=rdx0
   have rx1:=rdx1
   have rx2:=rdx2
   have rx3:=rdx3
   have rx4:=rdx4
   have rx5:=rdx5
   refine wp_loop_rounds 7 ?_
   rw[rounds_succ]
   have cc:=C0.out _ HW.out
   unfold pv at cc
   by_cases z0:p0.size=0
   rotate_left 1
   ·have ep:=hid (show pieceP (s.data.toList.drop a)=p0 from EP0.out z0)
    have hz:=hid (show p0.size≤s.size-a by have:=piece_le (s.data.toList.drop a);rw[ep.out,z2z,size_list] at this;exact this)
    obtain⟨ha,hf,hv,hJ⟩:=A2.out
    have nl:¬s.data.toList.length≤a:=by rw[size_list];omega
    obtain⟨f',rfl⟩:∃f',f=f'+1:=⟨f-1,by omega⟩
    have e1:z6z.wrap ((a:Int)+(p0.size:Nat))=((a+p0.size:Nat):Int):=by have:=HS.out;have:=hz.out;rw[z7z];omega
    have FA:=hid (z3z ha hf)
    by_cases co:p0.code=0
    ·by_cases kd:p0.t.kind=0
     ·have hv2:=hid (hv.trans (toks_gap nl ep.out z0 co kd))
      have HJ:=hid hJ
      clear ha hf hv hJ nl A2
      rw[co,kd] at cc
      go_wp2_with (go_at_call 95;(with_reducible refine cc.mono ?_);rintro e Wc ⟨rfl,hBc⟩;(have sc:=SC.out Wc (below_two' HW.out hBc));(have HC:=hid (below_two' HW.out hBc));clear cc hBc)
      go_roundw
      case rel=>exact⟨a+p0.size,f',i,D,by go_num,by have:=hz.out;omega,by have:=FA.out;omega,hv2.out,HBe.out i D wr _ HJ.out (below_two' HC.out ((z0z _ Wc).alloc (z1z _) _))⟩
      case measure=>have:=hz.out;simp[intOf];omega
     ·obtain⟨hi,hx,hr⟩:=get_of_drop (hv.trans (toks_tok nl ep.out z0 co kd))
      have HR:=hid hr
      have HJ:=hid hJ
      have DK:=hid (HL.out i D wr hJ).2
      clear ha hf hv hJ nl A2 hr
      rw[co] at cc
      go_upto_region 13 with(go_at_call 95;(with_reducible refine cc.mono ?_);rintro e Wc ⟨rfl,hBc⟩;(have sc:=SC.out Wc (below_two' HW.out hBc));(have HC:=hid (below_two' HW.out hBc));clear cc hBc)
      have bn:Below wr.heap.size wr (Wc.alloc (.cells #[.int .i64 p0.t.kind,.int .i64 (a:Nat),.string p0.t.text,.int .i64 p0.t.int,.int .u64 p0.t.bits,.int .i64 (p0.size:Nat),.int .i64 0] 115)):=below_two' HC.out ((z0z _ Wc).alloc (z1z _) _)
      have yy:=HY.out i hi D _ (HBe.out i D wr _ HJ.out bn)
      rw[hx] at yy
      have y2:YieldAt Fence.wide (n-1) prog l #[.agg #[.int .i64 p0.t.kind,.int .i64 (a:Nat),.string p0.t.text,.int .i64 p0.t.int,.int .u64 p0.t.bits],.agg #[.int .i64 0,.int .i64 0]] (Wc.alloc (.cells #[.int .i64 p0.t.kind,.int .i64 (a:Nat),.string p0.t.text,.int .i64 p0.t.int,.int .u64 p0.t.bits,.int .i64 (p0.size:Nat),.int .i64 0] 115)) fun e W'=>(e=.returned (.bool true)∧(∃D',J (i+1) D' W')∧(∀k,k<(Wc.alloc (.cells #[.int .i64 p0.t.kind,.int .i64 (a:Nat),.string p0.t.text,.int .i64 p0.t.int,.int .u64 p0.t.bits,.int .i64 (p0.size:Nat),.int .i64 0] 115)).heap.size→¬D k→W'.heap[k]? = (Wc.alloc (.cells #[.int .i64 p0.t.kind,.int .i64 (a:Nat),.string p0.t.text,.int .i64 p0.t.int,.int .u64 p0.t.bits,.int .i64 (p0.size:Nat),.int .i64 0] 115)).heap[k]?))∨(e=.returned (.bool false)∧X W'):=yy
      obtain⟨fn',tmps,assign,body,hy,hR⟩:=y2
      have nD:=hid (show ¬D Wc.heap.size from fun h=>by have:=DK.out _ h;have:=HC.out.size;omega)
      clear yy bn hx hi
      refine(wpIn_wide (n:=n)).1 ?_
      gi_wp2
      refine hR.mono ?_
      rintro e W3 (⟨rfl,hK3,hkeep⟩|⟨rfl,hX3⟩)
      ·have hr3:W3.heap[Wc.heap.size]? = some (.cells #[.int .i64 p0.t.kind,.int .i64 (a:Nat),.string p0.t.text,.int .i64 p0.t.int,.int .u64 p0.t.bits,.int .i64 (p0.size:Nat),.int .i64 0] 115):=(hkeep _ (by rw[z8z];omega) nD.out).trans (z4z Wc _)
       have ec:=row_cellsX hr3
       have K3:=hid hK3
       clear hK3 hkeep hr3 hy hR
       gi_wp2
       go_wp2
       go_roundw
       case rel=>
        obtain⟨D',hD'⟩:=K3.out
        exact⟨a+p0.size,f',i+1,D',by go_num,by have:=hz.out;omega,by have:=FA.out;omega,HR.out,hD'⟩
       case measure=>have:=hz.out;simp[intOf];omega
      ·clear hy hR
       gi_wp2
       go_wp2
       refine(show ∀ {Q:Exit→Act→World→Prop} {a:Act} {w:World},Q .ret a w→Exit.noGoto Q .ret a w from fun h=>by first|exact h|(unfold Exit.noGoto;exact h)|simpa [Exit.noGoto] using h) ?_
       refine bodyPost_ret (results_none rfl _ _ _) rfl ?_
       exact⟨⟨_,rfl⟩,.inr hX3⟩
    ·obtain⟨hi,hx,he⟩:=last_of_drop (hv.trans (toks_bad nl ep.out z0 co))
     have HE:=hid he
     have HJ:=hid hJ
     clear ha hf hv hJ nl A2 he
     go_upto_region 10 with(go_at_call 95;(with_reducible refine cc.mono ?_);rintro e Wc ⟨rfl,hBc⟩;(have sc:=SC.out Wc (below_two' HW.out hBc));(have HC:=hid (below_two' HW.out hBc));clear cc hBc)
     have bn:Below wr.heap.size wr (Wc.alloc (.cells #[.int .i64 p0.t.kind,.int .i64 0,.string p0.t.text,.int .i64 p0.t.int,.int .u64 p0.t.bits,.int .i64 (p0.size:Nat),.int .i64 p0.code] 115)):=below_two' HC.out ((z0z _ Wc).alloc (z1z _) _)
     have yy:=HY.out i hi D _ (HBe.out i D wr _ HJ.out bn)
     rw[hx] at yy
     have y2:YieldAt Fence.wide (n-1) prog l #[.agg #[.int .i64 0,.int .i64 0,.string ⟨#[]⟩,.int .i64 0,.int .u64 0],.agg #[.int .i64 p0.code,.int .i64 (a:Nat)]] (Wc.alloc (.cells #[.int .i64 p0.t.kind,.int .i64 0,.string p0.t.text,.int .i64 p0.t.int,.int .u64 p0.t.bits,.int .i64 (p0.size:Nat),.int .i64 p0.code] 115)) fun e W'=>(e=.returned (.bool true)∧(∃D',J (i+1) D' W')∧(∀k,k<(Wc.alloc (.cells #[.int .i64 p0.t.kind,.int .i64 0,.string p0.t.text,.int .i64 p0.t.int,.int .u64 p0.t.bits,.int .i64 (p0.size:Nat),.int .i64 p0.code] 115)).heap.size→¬D k→W'.heap[k]? = (Wc.alloc (.cells #[.int .i64 p0.t.kind,.int .i64 0,.string p0.t.text,.int .i64 p0.t.int,.int .u64 p0.t.bits,.int .i64 (p0.size:Nat),.int .i64 p0.code] 115)).heap[k]?))∨(e=.returned (.bool false)∧X W'):=yy
     obtain⟨fn',tmps,assign,body,hy,hR⟩:=y2
     clear yy bn hx hi
     refine(wpIn_wide (n:=n)).1 ?_
     gi_wp2
     refine hR.mono ?_
     rintro e W3 (⟨rfl,hK3,-⟩|⟨rfl,hX3⟩)
     ·rw[HE.out] at hK3
      clear hy hR
      gi_wp2
      go_wp2
      refine(show ∀ {Q:Exit→Act→World→Prop} {a:Act} {w:World},Q .ret a w→Exit.noGoto Q .ret a w from fun h=>by first|exact h|(unfold Exit.noGoto;exact h)|simpa [Exit.noGoto] using h) ?_
      refine bodyPost_ret (results_none rfl _ _ _) rfl ?_
      exact⟨⟨_,rfl⟩,.inl hK3⟩
     ·clear hy hR
      gi_wp2
      go_wp2
      refine(show ∀ {Q:Exit→Act→World→Prop} {a:Act} {w:World},Q .ret a w→Exit.noGoto Q .ret a w from fun h=>by first|exact h|(unfold Exit.noGoto;exact h)|simpa [Exit.noGoto] using h) ?_
      refine bodyPost_ret (results_none rfl _ _ _) rfl ?_
      exact⟨⟨_,rfl⟩,.inr hX3⟩
   go_wp2_with (go_at_call 95;(with_reducible refine cc.mono ?_);rintro e Wc ⟨rfl,hBc⟩;(have sc:=SC.out Wc (below_two' HW.out hBc));(have HC:=hid (below_two' HW.out hBc));clear cc hBc)
   have bn:Below wr.heap.size wr (Wc.alloc (.cells #[.int .i64 p0.t.kind,.int .i64 0,.string p0.t.text,.int .i64 p0.t.int,.int .u64 p0.t.bits,.int .i64 0,.int .i64 p0.code] 115)):=below_two' HC.out ((z0z _ Wc).alloc (z1z _) _)
   have sc2:=SC.out _ bn
   replace HW:=hid bn
   clear sc bn HC
   generalize Wc.alloc (.cells #[.int .i64 p0.t.kind,.int .i64 0,.string p0.t.text,.int .i64 p0.t.int,.int .u64 p0.t.bits,.int .i64 0,.int .i64 p0.code] 115)=Wn at *
   rw[rounds_succ]
   have cc:=C1.out _ HW.out
   unfold pv at cc
   by_cases z1:p1.size=0
   rotate_left 1
   ·have ep:=hid (show pieceP (s.data.toList.drop a)=p1 from EP1.out z0 z1)
    have hz:=hid (show p1.size≤s.size-a by have:=piece_le (s.data.toList.drop a);rw[ep.out,z2z,size_list] at this;exact this)
    obtain⟨ha,hf,hv,hJ⟩:=A2.out
    have nl:¬s.data.toList.length≤a:=by rw[size_list];omega
    obtain⟨f',rfl⟩:∃f',f=f'+1:=⟨f-1,by omega⟩
    have e1:z6z.wrap ((a:Int)+(p1.size:Nat))=((a+p1.size:Nat):Int):=by have:=HS.out;have:=hz.out;rw[z7z];omega
    have FA:=hid (z3z ha hf)
    by_cases co:p1.code=0
    ·by_cases kd:p1.t.kind=0
     ·have hv2:=hid (hv.trans (toks_gap nl ep.out z1 co kd))
      have HJ:=hid hJ
      clear ha hf hv hJ nl A2
      rw[co,kd] at cc
      go_wp2_with (go_at_call 96;(with_reducible refine cc.mono ?_);rintro e Wc ⟨rfl,hBc⟩;(have sc:=SC.out Wc (below_two' HW.out hBc));(have HC:=hid (below_two' HW.out hBc));clear cc hBc)
      go_roundw
      case rel=>exact⟨a+p1.size,f',i,D,by go_num,by have:=hz.out;omega,by have:=FA.out;omega,hv2.out,HBe.out i D wr _ HJ.out (below_two' HC.out ((z0z _ Wc).alloc (z1z _) _))⟩
      case measure=>have:=hz.out;simp[intOf];omega
     ·obtain⟨hi,hx,hr⟩:=get_of_drop (hv.trans (toks_tok nl ep.out z1 co kd))
      have HR:=hid hr
      have HJ:=hid hJ
      have DK:=hid (HL.out i D wr hJ).2
      clear ha hf hv hJ nl A2 hr
      rw[co] at cc
      go_upto_region 13 with(go_at_call 96;(with_reducible refine cc.mono ?_);rintro e Wc ⟨rfl,hBc⟩;(have sc:=SC.out Wc (below_two' HW.out hBc));(have HC:=hid (below_two' HW.out hBc));clear cc hBc)
      have bn:Below wr.heap.size wr (Wc.alloc (.cells #[.int .i64 p1.t.kind,.int .i64 (a:Nat),.string p1.t.text,.int .i64 p1.t.int,.int .u64 p1.t.bits,.int .i64 (p1.size:Nat),.int .i64 0] 115)):=below_two' HC.out ((z0z _ Wc).alloc (z1z _) _)
      have yy:=HY.out i hi D _ (HBe.out i D wr _ HJ.out bn)
      rw[hx] at yy
      have y2:YieldAt Fence.wide (n-1) prog l #[.agg #[.int .i64 p1.t.kind,.int .i64 (a:Nat),.string p1.t.text,.int .i64 p1.t.int,.int .u64 p1.t.bits],.agg #[.int .i64 0,.int .i64 0]] (Wc.alloc (.cells #[.int .i64 p1.t.kind,.int .i64 (a:Nat),.string p1.t.text,.int .i64 p1.t.int,.int .u64 p1.t.bits,.int .i64 (p1.size:Nat),.int .i64 0] 115)) fun e W'=>(e=.returned (.bool true)∧(∃D',J (i+1) D' W')∧(∀k,k<(Wc.alloc (.cells #[.int .i64 p1.t.kind,.int .i64 (a:Nat),.string p1.t.text,.int .i64 p1.t.int,.int .u64 p1.t.bits,.int .i64 (p1.size:Nat),.int .i64 0] 115)).heap.size→¬D k→W'.heap[k]? = (Wc.alloc (.cells #[.int .i64 p1.t.kind,.int .i64 (a:Nat),.string p1.t.text,.int .i64 p1.t.int,.int .u64 p1.t.bits,.int .i64 (p1.size:Nat),.int .i64 0] 115)).heap[k]?))∨(e=.returned (.bool false)∧X W'):=yy
      obtain⟨fn',tmps,assign,body,hy,hR⟩:=y2
      have nD:=hid (show ¬D Wc.heap.size from fun h=>by have:=DK.out _ h;have:=HC.out.size;omega)
      clear yy bn hx hi
      refine(wpIn_wide (n:=n)).1 ?_
      gi_wp2
      refine hR.mono ?_
      rintro e W3 (⟨rfl,hK3,hkeep⟩|⟨rfl,hX3⟩)
      ·have hr3:W3.heap[Wc.heap.size]? = some (.cells #[.int .i64 p1.t.kind,.int .i64 (a:Nat),.string p1.t.text,.int .i64 p1.t.int,.int .u64 p1.t.bits,.int .i64 (p1.size:Nat),.int .i64 0] 115):=(hkeep _ (by rw[z8z];omega) nD.out).trans (z4z Wc _)
       have ec:=row_cellsX hr3
       have K3:=hid hK3
       clear hK3 hkeep hr3 hy hR
       gi_wp2
       go_wp2
       go_roundw
       case rel=>
        obtain⟨D',hD'⟩:=K3.out
        exact⟨a+p1.size,f',i+1,D',by go_num,by have:=hz.out;omega,by have:=FA.out;omega,HR.out,hD'⟩
       case measure=>have:=hz.out;simp[intOf];omega
      ·clear hy hR
       gi_wp2
       go_wp2
       refine(show ∀ {Q:Exit→Act→World→Prop} {a:Act} {w:World},Q .ret a w→Exit.noGoto Q .ret a w from fun h=>by first|exact h|(unfold Exit.noGoto;exact h)|simpa [Exit.noGoto] using h) ?_
       refine bodyPost_ret (results_none rfl _ _ _) rfl ?_
       exact⟨⟨_,rfl⟩,.inr hX3⟩
    ·obtain⟨hi,hx,he⟩:=last_of_drop (hv.trans (toks_bad nl ep.out z1 co))
     have HE:=hid he
     have HJ:=hid hJ
     clear ha hf hv hJ nl A2 he
     go_upto_region 10 with(go_at_call 96;(with_reducible refine cc.mono ?_);rintro e Wc ⟨rfl,hBc⟩;(have sc:=SC.out Wc (below_two' HW.out hBc));(have HC:=hid (below_two' HW.out hBc));clear cc hBc)
     have bn:Below wr.heap.size wr (Wc.alloc (.cells #[.int .i64 p1.t.kind,.int .i64 0,.string p1.t.text,.int .i64 p1.t.int,.int .u64 p1.t.bits,.int .i64 (p1.size:Nat),.int .i64 p1.code] 115)):=below_two' HC.out ((z0z _ Wc).alloc (z1z _) _)
     have yy:=HY.out i hi D _ (HBe.out i D wr _ HJ.out bn)
     rw[hx] at yy
     have y2:YieldAt Fence.wide (n-1) prog l #[.agg #[.int .i64 0,.int .i64 0,.string ⟨#[]⟩,.int .i64 0,.int .u64 0],.agg #[.int .i64 p1.code,.int .i64 (a:Nat)]] (Wc.alloc (.cells #[.int .i64 p1.t.kind,.int .i64 0,.string p1.t.text,.int .i64 p1.t.int,.int .u64 p1.t.bits,.int .i64 (p1.size:Nat),.int .i64 p1.code] 115)) fun e W'=>(e=.returned (.bool true)∧(∃D',J (i+1) D' W')∧(∀k,k<(Wc.alloc (.cells #[.int .i64 p1.t.kind,.int .i64 0,.string p1.t.text,.int .i64 p1.t.int,.int .u64 p1.t.bits,.int .i64 (p1.size:Nat),.int .i64 p1.code] 115)).heap.size→¬D k→W'.heap[k]? = (Wc.alloc (.cells #[.int .i64 p1.t.kind,.int .i64 0,.string p1.t.text,.int .i64 p1.t.int,.int .u64 p1.t.bits,.int .i64 (p1.size:Nat),.int .i64 p1.code] 115)).heap[k]?))∨(e=.returned (.bool false)∧X W'):=yy
     obtain⟨fn',tmps,assign,body,hy,hR⟩:=y2
     clear yy bn hx hi
     refine(wpIn_wide (n:=n)).1 ?_
     gi_wp2
     refine hR.mono ?_
     rintro e W3 (⟨rfl,hK3,-⟩|⟨rfl,hX3⟩)
     ·rw[HE.out] at hK3
      clear hy hR
      gi_wp2
      go_wp2
      refine(show ∀ {Q:Exit→Act→World→Prop} {a:Act} {w:World},Q .ret a w→Exit.noGoto Q .ret a w from fun h=>by first|exact h|(unfold Exit.noGoto;exact h)|simpa [Exit.noGoto] using h) ?_
      refine bodyPost_ret (results_none rfl _ _ _) rfl ?_
      exact⟨⟨_,rfl⟩,.inl hK3⟩
     ·clear hy hR
      gi_wp2
      go_wp2
      refine(show ∀ {Q:Exit→Act→World→Prop} {a:Act} {w:World},Q .ret a w→Exit.noGoto Q .ret a w from fun h=>by first|exact h|(unfold Exit.noGoto;exact h)|simpa [Exit.noGoto] using h) ?_
      refine bodyPost_ret (results_none rfl _ _ _) rfl ?_
      exact⟨⟨_,rfl⟩,.inr hX3⟩
   go_wp2_with (go_at_call 96;(with_reducible refine cc.mono ?_);rintro e Wc ⟨rfl,hBc⟩;(have sc:=SC.out Wc (below_two' HW.out hBc));(have HC:=hid (below_two' HW.out hBc));clear cc hBc)
   have bn:Below wr.heap.size wr (Wc.alloc (.cells #[.int .i64 p1.t.kind,.int .i64 0,.string p1.t.text,.int .i64 p1.t.int,.int .u64 p1.t.bits,.int .i64 0,.int .i64 p1.code] 115)):=below_two' HC.out ((z0z _ Wc).alloc (z1z _) _)
   have sc2:=SC.out _ bn
   replace HW:=hid bn
   clear sc bn HC
   generalize Wc.alloc (.cells #[.int .i64 p1.t.kind,.int .i64 0,.string p1.t.text,.int .i64 p1.t.int,.int .u64 p1.t.bits,.int .i64 0,.int .i64 p1.code] 115)=Wn at *
   rw[rounds_succ]
   have cc:=C2.out _ HW.out
   unfold pv at cc
   by_cases z2:p2.size=0
   rotate_left 1
   ·have ep:=hid (show pieceP (s.data.toList.drop a)=p2 from EP2.out z0 z1 z2)
    have hz:=hid (show p2.size≤s.size-a by have:=piece_le (s.data.toList.drop a);rw[ep.out,z2z,size_list] at this;exact this)
    obtain⟨ha,hf,hv,hJ⟩:=A2.out
    have nl:¬s.data.toList.length≤a:=by rw[size_list];omega
    obtain⟨f',rfl⟩:∃f',f=f'+1:=⟨f-1,by omega⟩
    have e1:z6z.wrap ((a:Int)+(p2.size:Nat))=((a+p2.size:Nat):Int):=by have:=HS.out;have:=hz.out;rw[z7z];omega
    have FA:=hid (z3z ha hf)
    by_cases co:p2.code=0
    ·by_cases kd:p2.t.kind=0
     ·have hv2:=hid (hv.trans (toks_gap nl ep.out z2 co kd))
      have HJ:=hid hJ
      clear ha hf hv hJ nl A2
      rw[co,kd] at cc
      go_wp2_with (go_at_call 97;(with_reducible refine cc.mono ?_);rintro e Wc ⟨rfl,hBc⟩;(have sc:=SC.out Wc (below_two' HW.out hBc));(have HC:=hid (below_two' HW.out hBc));clear cc hBc)
      go_roundw
      case rel=>exact⟨a+p2.size,f',i,D,by go_num,by have:=hz.out;omega,by have:=FA.out;omega,hv2.out,HBe.out i D wr _ HJ.out (below_two' HC.out ((z0z _ Wc).alloc (z1z _) _))⟩
      case measure=>have:=hz.out;simp[intOf];omega
     ·obtain⟨hi,hx,hr⟩:=get_of_drop (hv.trans (toks_tok nl ep.out z2 co kd))
      have HR:=hid hr
      have HJ:=hid hJ
      have DK:=hid (HL.out i D wr hJ).2
      clear ha hf hv hJ nl A2 hr
      rw[co] at cc
      go_upto_region 13 with(go_at_call 97;(with_reducible refine cc.mono ?_);rintro e Wc ⟨rfl,hBc⟩;(have sc:=SC.out Wc (below_two' HW.out hBc));(have HC:=hid (below_two' HW.out hBc));clear cc hBc)
      have bn:Below wr.heap.size wr (Wc.alloc (.cells #[.int .i64 p2.t.kind,.int .i64 (a:Nat),.string p2.t.text,.int .i64 p2.t.int,.int .u64 p2.t.bits,.int .i64 (p2.size:Nat),.int .i64 0] 115)):=below_two' HC.out ((z0z _ Wc).alloc (z1z _) _)
      have yy:=HY.out i hi D _ (HBe.out i D wr _ HJ.out bn)
      rw[hx] at yy
      have y2:YieldAt Fence.wide (n-1) prog l #[.agg #[.int .i64 p2.t.kind,.int .i64 (a:Nat),.string p2.t.text,.int .i64 p2.t.int,.int .u64 p2.t.bits],.agg #[.int .i64 0,.int .i64 0]] (Wc.alloc (.cells #[.int .i64 p2.t.kind,.int .i64 (a:Nat),.string p2.t.text,.int .i64 p2.t.int,.int .u64 p2.t.bits,.int .i64 (p2.size:Nat),.int .i64 0] 115)) fun e W'=>(e=.returned (.bool true)∧(∃D',J (i+1) D' W')∧(∀k,k<(Wc.alloc (.cells #[.int .i64 p2.t.kind,.int .i64 (a:Nat),.string p2.t.text,.int .i64 p2.t.int,.int .u64 p2.t.bits,.int .i64 (p2.size:Nat),.int .i64 0] 115)).heap.size→¬D k→W'.heap[k]? = (Wc.alloc (.cells #[.int .i64 p2.t.kind,.int .i64 (a:Nat),.string p2.t.text,.int .i64 p2.t.int,.int .u64 p2.t.bits,.int .i64 (p2.size:Nat),.int .i64 0] 115)).heap[k]?))∨(e=.returned (.bool false)∧X W'):=yy
      obtain⟨fn',tmps,assign,body,hy,hR⟩:=y2
      have nD:=hid (show ¬D Wc.heap.size from fun h=>by have:=DK.out _ h;have:=HC.out.size;omega)
      clear yy bn hx hi
      refine(wpIn_wide (n:=n)).1 ?_
      gi_wp2
      refine hR.mono ?_
      rintro e W3 (⟨rfl,hK3,hkeep⟩|⟨rfl,hX3⟩)
      ·have hr3:W3.heap[Wc.heap.size]? = some (.cells #[.int .i64 p2.t.kind,.int .i64 (a:Nat),.string p2.t.text,.int .i64 p2.t.int,.int .u64 p2.t.bits,.int .i64 (p2.size:Nat),.int .i64 0] 115):=(hkeep _ (by rw[z8z];omega) nD.out).trans (z4z Wc _)
       have ec:=row_cellsX hr3
       have K3:=hid hK3
       clear hK3 hkeep hr3 hy hR
       gi_wp2
       go_wp2
       go_roundw
       case rel=>
        obtain⟨D',hD'⟩:=K3.out
        exact⟨a+p2.size,f',i+1,D',by go_num,by have:=hz.out;omega,by have:=FA.out;omega,HR.out,hD'⟩
       case measure=>have:=hz.out;simp[intOf];omega
      ·clear hy hR
       gi_wp2
       go_wp2
       refine(show ∀ {Q:Exit→Act→World→Prop} {a:Act} {w:World},Q .ret a w→Exit.noGoto Q .ret a w from fun h=>by first|exact h|(unfold Exit.noGoto;exact h)|simpa [Exit.noGoto] using h) ?_
       refine bodyPost_ret (results_none rfl _ _ _) rfl ?_
       exact⟨⟨_,rfl⟩,.inr hX3⟩
    ·obtain⟨hi,hx,he⟩:=last_of_drop (hv.trans (toks_bad nl ep.out z2 co))
     have HE:=hid he
     have HJ:=hid hJ
     clear ha hf hv hJ nl A2 he
     go_upto_region 10 with(go_at_call 97;(with_reducible refine cc.mono ?_);rintro e Wc ⟨rfl,hBc⟩;(have sc:=SC.out Wc (below_two' HW.out hBc));(have HC:=hid (below_two' HW.out hBc));clear cc hBc)
     have bn:Below wr.heap.size wr (Wc.alloc (.cells #[.int .i64 p2.t.kind,.int .i64 0,.string p2.t.text,.int .i64 p2.t.int,.int .u64 p2.t.bits,.int .i64 (p2.size:Nat),.int .i64 p2.code] 115)):=below_two' HC.out ((z0z _ Wc).alloc (z1z _) _)
     have yy:=HY.out i hi D _ (HBe.out i D wr _ HJ.out bn)
     rw[hx] at yy
     have y2:YieldAt Fence.wide (n-1) prog l #[.agg #[.int .i64 0,.int .i64 0,.string ⟨#[]⟩,.int .i64 0,.int .u64 0],.agg #[.int .i64 p2.code,.int .i64 (a:Nat)]] (Wc.alloc (.cells #[.int .i64 p2.t.kind,.int .i64 0,.string p2.t.text,.int .i64 p2.t.int,.int .u64 p2.t.bits,.int .i64 (p2.size:Nat),.int .i64 p2.code] 115)) fun e W'=>(e=.returned (.bool true)∧(∃D',J (i+1) D' W')∧(∀k,k<(Wc.alloc (.cells #[.int .i64 p2.t.kind,.int .i64 0,.string p2.t.text,.int .i64 p2.t.int,.int .u64 p2.t.bits,.int .i64 (p2.size:Nat),.int .i64 p2.code] 115)).heap.size→¬D k→W'.heap[k]? = (Wc.alloc (.cells #[.int .i64 p2.t.kind,.int .i64 0,.string p2.t.text,.int .i64 p2.t.int,.int .u64 p2.t.bits,.int .i64 (p2.size:Nat),.int .i64 p2.code] 115)).heap[k]?))∨(e=.returned (.bool false)∧X W'):=yy
     obtain⟨fn',tmps,assign,body,hy,hR⟩:=y2
     clear yy bn hx hi
     refine(wpIn_wide (n:=n)).1 ?_
     gi_wp2
     refine hR.mono ?_
     rintro e W3 (⟨rfl,hK3,-⟩|⟨rfl,hX3⟩)
     ·rw[HE.out] at hK3
      clear hy hR
      gi_wp2
      go_wp2
      refine(show ∀ {Q:Exit→Act→World→Prop} {a:Act} {w:World},Q .ret a w→Exit.noGoto Q .ret a w from fun h=>by first|exact h|(unfold Exit.noGoto;exact h)|simpa [Exit.noGoto] using h) ?_
      refine bodyPost_ret (results_none rfl _ _ _) rfl ?_
      exact⟨⟨_,rfl⟩,.inl hK3⟩
     ·clear hy hR
      gi_wp2
      go_wp2
      refine(show ∀ {Q:Exit→Act→World→Prop} {a:Act} {w:World},Q .ret a w→Exit.noGoto Q .ret a w from fun h=>by first|exact h|(unfold Exit.noGoto;exact h)|simpa [Exit.noGoto] using h) ?_
      refine bodyPost_ret (results_none rfl _ _ _) rfl ?_
      exact⟨⟨_,rfl⟩,.inr hX3⟩
   go_wp2_with (go_at_call 97;(with_reducible refine cc.mono ?_);rintro e Wc ⟨rfl,hBc⟩;(have sc:=SC.out Wc (below_two' HW.out hBc));(have HC:=hid (below_two' HW.out hBc));clear cc hBc)
   have bn:Below wr.heap.size wr (Wc.alloc (.cells #[.int .i64 p2.t.kind,.int .i64 0,.string p2.t.text,.int .i64 p2.t.int,.int .u64 p2.t.bits,.int .i64 0,.int .i64 p2.code] 115)):=below_two' HC.out ((z0z _ Wc).alloc (z1z _) _)
   have sc2:=SC.out _ bn
   replace HW:=hid bn
   clear sc bn HC
   generalize Wc.alloc (.cells #[.int .i64 p2.t.kind,.int .i64 0,.string p2.t.text,.int .i64 p2.t.int,.int .u64 p2.t.bits,.int .i64 0,.int .i64 p2.code] 115)=Wn at *
   rw[rounds_succ]
   have cc:=C3.out _ HW.out
   unfold pv at cc
   by_cases z3:p3.size=0
   rotate_left 1
   ·have ep:=hid (show pieceP (s.data.toList.drop a)=p3 from EP3.out z0 z1 z2 z3)
    have hz:=hid (show p3.size≤s.size-a by have:=piece_le (s.data.toList.drop a);rw[ep.out,z2z,size_list] at this;exact this)
    obtain⟨ha,hf,hv,hJ⟩:=A2.out
    have nl:¬s.data.toList.length≤a:=by rw[size_list];omega
    obtain⟨f',rfl⟩:∃f',f=f'+1:=⟨f-1,by omega⟩
    have e1:z6z.wrap ((a:Int)+(p3.size:Nat))=((a+p3.size:Nat):Int):=by have:=HS.out;have:=hz.out;rw[z7z];omega
    have FA:=hid (z3z ha hf)
    by_cases co:p3.code=0
    ·by_cases kd:p3.t.kind=0
     ·have hv2:=hid (hv.trans (toks_gap nl ep.out z3 co kd))
      have HJ:=hid hJ
      clear ha hf hv hJ nl A2
      rw[co,kd] at cc
      go_wp2_with (go_at_call 98;(with_reducible refine cc.mono ?_);rintro e Wc ⟨rfl,hBc⟩;(have sc:=SC.out Wc (below_two' HW.out hBc));(have HC:=hid (below_two' HW.out hBc));clear cc hBc)
      go_roundw
      case rel=>exact⟨a+p3.size,f',i,D,by go_num,by have:=hz.out;omega,by have:=FA.out;omega,hv2.out,HBe.out i D wr _ HJ.out (below_two' HC.out ((z0z _ Wc).alloc (z1z _) _))⟩
      case measure=>have:=hz.out;simp[intOf];omega
     ·obtain⟨hi,hx,hr⟩:=get_of_drop (hv.trans (toks_tok nl ep.out z3 co kd))
      have HR:=hid hr
      have HJ:=hid hJ
      have DK:=hid (HL.out i D wr hJ).2
      clear ha hf hv hJ nl A2 hr
      rw[co] at cc
      go_upto_region 13 with(go_at_call 98;(with_reducible refine cc.mono ?_);rintro e Wc ⟨rfl,hBc⟩;(have sc:=SC.out Wc (below_two' HW.out hBc));(have HC:=hid (below_two' HW.out hBc));clear cc hBc)
      have bn:Below wr.heap.size wr (Wc.alloc (.cells #[.int .i64 p3.t.kind,.int .i64 (a:Nat),.string p3.t.text,.int .i64 p3.t.int,.int .u64 p3.t.bits,.int .i64 (p3.size:Nat),.int .i64 0] 115)):=below_two' HC.out ((z0z _ Wc).alloc (z1z _) _)
      have yy:=HY.out i hi D _ (HBe.out i D wr _ HJ.out bn)
      rw[hx] at yy
      have y2:YieldAt Fence.wide (n-1) prog l #[.agg #[.int .i64 p3.t.kind,.int .i64 (a:Nat),.string p3.t.text,.int .i64 p3.t.int,.int .u64 p3.t.bits],.agg #[.int .i64 0,.int .i64 0]] (Wc.alloc (.cells #[.int .i64 p3.t.kind,.int .i64 (a:Nat),.string p3.t.text,.int .i64 p3.t.int,.int .u64 p3.t.bits,.int .i64 (p3.size:Nat),.int .i64 0] 115)) fun e W'=>(e=.returned (.bool true)∧(∃D',J (i+1) D' W')∧(∀k,k<(Wc.alloc (.cells #[.int .i64 p3.t.kind,.int .i64 (a:Nat),.string p3.t.text,.int .i64 p3.t.int,.int .u64 p3.t.bits,.int .i64 (p3.size:Nat),.int .i64 0] 115)).heap.size→¬D k→W'.heap[k]? = (Wc.alloc (.cells #[.int .i64 p3.t.kind,.int .i64 (a:Nat),.string p3.t.text,.int .i64 p3.t.int,.int .u64 p3.t.bits,.int .i64 (p3.size:Nat),.int .i64 0] 115)).heap[k]?))∨(e=.returned (.bool false)∧X W'):=yy
      obtain⟨fn',tmps,assign,body,hy,hR⟩:=y2
      have nD:=hid (show ¬D Wc.heap.size from fun h=>by have:=DK.out _ h;have:=HC.out.size;omega)
      clear yy bn hx hi
      refine(wpIn_wide (n:=n)).1 ?_
      gi_wp2
      refine hR.mono ?_
      rintro e W3 (⟨rfl,hK3,hkeep⟩|⟨rfl,hX3⟩)
      ·have hr3:W3.heap[Wc.heap.size]? = some (.cells #[.int .i64 p3.t.kind,.int .i64 (a:Nat),.string p3.t.text,.int .i64 p3.t.int,.int .u64 p3.t.bits,.int .i64 (p3.size:Nat),.int .i64 0] 115):=(hkeep _ (by rw[z8z];omega) nD.out).trans (z4z Wc _)
       have ec:=row_cellsX hr3
       have K3:=hid hK3
       clear hK3 hkeep hr3 hy hR
       gi_wp2
       go_wp2
       go_roundw
       case rel=>
        obtain⟨D',hD'⟩:=K3.out
        exact⟨a+p3.size,f',i+1,D',by go_num,by have:=hz.out;omega,by have:=FA.out;omega,HR.out,hD'⟩
       case measure=>have:=hz.out;simp[intOf];omega
      ·clear hy hR
       gi_wp2
       go_wp2
       refine(show ∀ {Q:Exit→Act→World→Prop} {a:Act} {w:World},Q .ret a w→Exit.noGoto Q .ret a w from fun h=>by first|exact h|(unfold Exit.noGoto;exact h)|simpa [Exit.noGoto] using h) ?_
       refine bodyPost_ret (results_none rfl _ _ _) rfl ?_
       exact⟨⟨_,rfl⟩,.inr hX3⟩
    ·obtain⟨hi,hx,he⟩:=last_of_drop (hv.trans (toks_bad nl ep.out z3 co))
     have HE:=hid he
     have HJ:=hid hJ
     clear ha hf hv hJ nl A2 he
     go_upto_region 10 with(go_at_call 98;(with_reducible refine cc.mono ?_);rintro e Wc ⟨rfl,hBc⟩;(have sc:=SC.out Wc (below_two' HW.out hBc));(have HC:=hid (below_two' HW.out hBc));clear cc hBc)
     have bn:Below wr.heap.size wr (Wc.alloc (.cells #[.int .i64 p3.t.kind,.int .i64 0,.string p3.t.text,.int .i64 p3.t.int,.int .u64 p3.t.bits,.int .i64 (p3.size:Nat),.int .i64 p3.code] 115)):=below_two' HC.out ((z0z _ Wc).alloc (z1z _) _)
     have yy:=HY.out i hi D _ (HBe.out i D wr _ HJ.out bn)
     rw[hx] at yy
     have y2:YieldAt Fence.wide (n-1) prog l #[.agg #[.int .i64 0,.int .i64 0,.string ⟨#[]⟩,.int .i64 0,.int .u64 0],.agg #[.int .i64 p3.code,.int .i64 (a:Nat)]] (Wc.alloc (.cells #[.int .i64 p3.t.kind,.int .i64 0,.string p3.t.text,.int .i64 p3.t.int,.int .u64 p3.t.bits,.int .i64 (p3.size:Nat),.int .i64 p3.code] 115)) fun e W'=>(e=.returned (.bool true)∧(∃D',J (i+1) D' W')∧(∀k,k<(Wc.alloc (.cells #[.int .i64 p3.t.kind,.int .i64 0,.string p3.t.text,.int .i64 p3.t.int,.int .u64 p3.t.bits,.int .i64 (p3.size:Nat),.int .i64 p3.code] 115)).heap.size→¬D k→W'.heap[k]? = (Wc.alloc (.cells #[.int .i64 p3.t.kind,.int .i64 0,.string p3.t.text,.int .i64 p3.t.int,.int .u64 p3.t.bits,.int .i64 (p3.size:Nat),.int .i64 p3.code] 115)).heap[k]?))∨(e=.returned (.bool false)∧X W'):=yy
     obtain⟨fn',tmps,assign,body,hy,hR⟩:=y2
     clear yy bn hx hi
     refine(wpIn_wide (n:=n)).1 ?_
     gi_wp2
     refine hR.mono ?_
     rintro e W3 (⟨rfl,hK3,-⟩|⟨rfl,hX3⟩)
     ·rw[HE.out] at hK3
      clear hy hR
      gi_wp2
      go_wp2
      refine(show ∀ {Q:Exit→Act→World→Prop} {a:Act} {w:World},Q .ret a w→Exit.noGoto Q .ret a w from fun h=>by first|exact h|(unfold Exit.noGoto;exact h)|simpa [Exit.noGoto] using h) ?_
      refine bodyPost_ret (results_none rfl _ _ _) rfl ?_
      exact⟨⟨_,rfl⟩,.inl hK3⟩
     ·clear hy hR
      gi_wp2
      go_wp2
      refine(show ∀ {Q:Exit→Act→World→Prop} {a:Act} {w:World},Q .ret a w→Exit.noGoto Q .ret a w from fun h=>by first|exact h|(unfold Exit.noGoto;exact h)|simpa [Exit.noGoto] using h) ?_
      refine bodyPost_ret (results_none rfl _ _ _) rfl ?_
      exact⟨⟨_,rfl⟩,.inr hX3⟩
   go_wp2_with (go_at_call 98;(with_reducible refine cc.mono ?_);rintro e Wc ⟨rfl,hBc⟩;(have sc:=SC.out Wc (below_two' HW.out hBc));(have HC:=hid (below_two' HW.out hBc));clear cc hBc)
   have bn:Below wr.heap.size wr (Wc.alloc (.cells #[.int .i64 p3.t.kind,.int .i64 0,.string p3.t.text,.int .i64 p3.t.int,.int .u64 p3.t.bits,.int .i64 0,.int .i64 p3.code] 115)):=below_two' HC.out ((z0z _ Wc).alloc (z1z _) _)
   have sc2:=SC.out _ bn
   replace HW:=hid bn
   clear sc bn HC
   generalize Wc.alloc (.cells #[.int .i64 p3.t.kind,.int .i64 0,.string p3.t.text,.int .i64 p3.t.int,.int .u64 p3.t.bits,.int .i64 0,.int .i64 p3.code] 115)=Wn at *
   rw[rounds_succ]
   have cc:=C4.out _ HW.out
   unfold pv at cc
   by_cases z4:p4.size=0
   rotate_left 1
   ·have ep:=hid (show pieceP (s.data.toList.drop a)=p4 from EP4.out z0 z1 z2 z3 z4)
    have hz:=hid (show p4.size≤s.size-a by have:=piece_le (s.data.toList.drop a);rw[ep.out,z2z,size_list] at this;exact this)
    obtain⟨ha,hf,hv,hJ⟩:=A2.out
    have nl:¬s.data.toList.length≤a:=by rw[size_list];omega
    obtain⟨f',rfl⟩:∃f',f=f'+1:=⟨f-1,by omega⟩
    have e1:z6z.wrap ((a:Int)+(p4.size:Nat))=((a+p4.size:Nat):Int):=by have:=HS.out;have:=hz.out;rw[z7z];omega
    have FA:=hid (z3z ha hf)
    by_cases co:p4.code=0
    ·by_cases kd:p4.t.kind=0
     ·have hv2:=hid (hv.trans (toks_gap nl ep.out z4 co kd))
      have HJ:=hid hJ
      clear ha hf hv hJ nl A2
      rw[co,kd] at cc
      go_wp2_with (go_at_call 99;(with_reducible refine cc.mono ?_);rintro e Wc ⟨rfl,hBc⟩;(have sc:=SC.out Wc (below_two' HW.out hBc));(have HC:=hid (below_two' HW.out hBc));clear cc hBc)
      go_roundw
      case rel=>exact⟨a+p4.size,f',i,D,by go_num,by have:=hz.out;omega,by have:=FA.out;omega,hv2.out,HBe.out i D wr _ HJ.out (below_two' HC.out ((z0z _ Wc).alloc (z1z _) _))⟩
      case measure=>have:=hz.out;simp[intOf];omega
     ·obtain⟨hi,hx,hr⟩:=get_of_drop (hv.trans (toks_tok nl ep.out z4 co kd))
      have HR:=hid hr
      have HJ:=hid hJ
      have DK:=hid (HL.out i D wr hJ).2
      clear ha hf hv hJ nl A2 hr
      rw[co] at cc
      go_upto_region 13 with(go_at_call 99;(with_reducible refine cc.mono ?_);rintro e Wc ⟨rfl,hBc⟩;(have sc:=SC.out Wc (below_two' HW.out hBc));(have HC:=hid (below_two' HW.out hBc));clear cc hBc)
      have bn:Below wr.heap.size wr (Wc.alloc (.cells #[.int .i64 p4.t.kind,.int .i64 (a:Nat),.string p4.t.text,.int .i64 p4.t.int,.int .u64 p4.t.bits,.int .i64 (p4.size:Nat),.int .i64 0] 115)):=below_two' HC.out ((z0z _ Wc).alloc (z1z _) _)
      have yy:=HY.out i hi D _ (HBe.out i D wr _ HJ.out bn)
      rw[hx] at yy
      have y2:YieldAt Fence.wide (n-1) prog l #[.agg #[.int .i64 p4.t.kind,.int .i64 (a:Nat),.string p4.t.text,.int .i64 p4.t.int,.int .u64 p4.t.bits],.agg #[.int .i64 0,.int .i64 0]] (Wc.alloc (.cells #[.int .i64 p4.t.kind,.int .i64 (a:Nat),.string p4.t.text,.int .i64 p4.t.int,.int .u64 p4.t.bits,.int .i64 (p4.size:Nat),.int .i64 0] 115)) fun e W'=>(e=.returned (.bool true)∧(∃D',J (i+1) D' W')∧(∀k,k<(Wc.alloc (.cells #[.int .i64 p4.t.kind,.int .i64 (a:Nat),.string p4.t.text,.int .i64 p4.t.int,.int .u64 p4.t.bits,.int .i64 (p4.size:Nat),.int .i64 0] 115)).heap.size→¬D k→W'.heap[k]? = (Wc.alloc (.cells #[.int .i64 p4.t.kind,.int .i64 (a:Nat),.string p4.t.text,.int .i64 p4.t.int,.int .u64 p4.t.bits,.int .i64 (p4.size:Nat),.int .i64 0] 115)).heap[k]?))∨(e=.returned (.bool false)∧X W'):=yy
      obtain⟨fn',tmps,assign,body,hy,hR⟩:=y2
      have nD:=hid (show ¬D Wc.heap.size from fun h=>by have:=DK.out _ h;have:=HC.out.size;omega)
      clear yy bn hx hi
      refine(wpIn_wide (n:=n)).1 ?_
      gi_wp2
      refine hR.mono ?_
      rintro e W3 (⟨rfl,hK3,hkeep⟩|⟨rfl,hX3⟩)
      ·have hr3:W3.heap[Wc.heap.size]? = some (.cells #[.int .i64 p4.t.kind,.int .i64 (a:Nat),.string p4.t.text,.int .i64 p4.t.int,.int .u64 p4.t.bits,.int .i64 (p4.size:Nat),.int .i64 0] 115):=(hkeep _ (by rw[z8z];omega) nD.out).trans (z4z Wc _)
       have ec:=row_cellsX hr3
       have K3:=hid hK3
       clear hK3 hkeep hr3 hy hR
       gi_wp2
       go_wp2
       go_roundw
       case rel=>
        obtain⟨D',hD'⟩:=K3.out
        exact⟨a+p4.size,f',i+1,D',by go_num,by have:=hz.out;omega,by have:=FA.out;omega,HR.out,hD'⟩
       case measure=>have:=hz.out;simp[intOf];omega
      ·clear hy hR
       gi_wp2
       go_wp2
       refine(show ∀ {Q:Exit→Act→World→Prop} {a:Act} {w:World},Q .ret a w→Exit.noGoto Q .ret a w from fun h=>by first|exact h|(unfold Exit.noGoto;exact h)|simpa [Exit.noGoto] using h) ?_
       refine bodyPost_ret (results_none rfl _ _ _) rfl ?_
       exact⟨⟨_,rfl⟩,.inr hX3⟩
    ·obtain⟨hi,hx,he⟩:=last_of_drop (hv.trans (toks_bad nl ep.out z4 co))
     have HE:=hid he
     have HJ:=hid hJ
     clear ha hf hv hJ nl A2 he
     go_upto_region 10 with(go_at_call 99;(with_reducible refine cc.mono ?_);rintro e Wc ⟨rfl,hBc⟩;(have sc:=SC.out Wc (below_two' HW.out hBc));(have HC:=hid (below_two' HW.out hBc));clear cc hBc)
     have bn:Below wr.heap.size wr (Wc.alloc (.cells #[.int .i64 p4.t.kind,.int .i64 0,.string p4.t.text,.int .i64 p4.t.int,.int .u64 p4.t.bits,.int .i64 (p4.size:Nat),.int .i64 p4.code] 115)):=below_two' HC.out ((z0z _ Wc).alloc (z1z _) _)
     have yy:=HY.out i hi D _ (HBe.out i D wr _ HJ.out bn)
     rw[hx] at yy
     have y2:YieldAt Fence.wide (n-1) prog l #[.agg #[.int .i64 0,.int .i64 0,.string ⟨#[]⟩,.int .i64 0,.int .u64 0],.agg #[.int .i64 p4.code,.int .i64 (a:Nat)]] (Wc.alloc (.cells #[.int .i64 p4.t.kind,.int .i64 0,.string p4.t.text,.int .i64 p4.t.int,.int .u64 p4.t.bits,.int .i64 (p4.size:Nat),.int .i64 p4.code] 115)) fun e W'=>(e=.returned (.bool true)∧(∃D',J (i+1) D' W')∧(∀k,k<(Wc.alloc (.cells #[.int .i64 p4.t.kind,.int .i64 0,.string p4.t.text,.int .i64 p4.t.int,.int .u64 p4.t.bits,.int .i64 (p4.size:Nat),.int .i64 p4.code] 115)).heap.size→¬D k→W'.heap[k]? = (Wc.alloc (.cells #[.int .i64 p4.t.kind,.int .i64 0,.string p4.t.text,.int .i64 p4.t.int,.int .u64 p4.t.bits,.int .i64 (p4.size:Nat),.int .i64 p4.code] 115)).heap[k]?))∨(e=.returned (.bool false)∧X W'):=yy
     obtain⟨fn',tmps,assign,body,hy,hR⟩:=y2
     clear yy bn hx hi
     refine(wpIn_wide (n:=n)).1 ?_
     gi_wp2
     refine hR.mono ?_
     rintro e W3 (⟨rfl,hK3,-⟩|⟨rfl,hX3⟩)
     ·rw[HE.out] at hK3
      clear hy hR
      gi_wp2
      go_wp2
      refine(show ∀ {Q:Exit→Act→World→Prop} {a:Act} {w:World},Q .ret a w→Exit.noGoto Q .ret a w from fun h=>by first|exact h|(unfold Exit.noGoto;exact h)|simpa [Exit.noGoto] using h) ?_
      refine bodyPost_ret (results_none rfl _ _ _) rfl ?_
      exact⟨⟨_,rfl⟩,.inl hK3⟩
     ·clear hy hR
      gi_wp2
      go_wp2
      refine(show ∀ {Q:Exit→Act→World→Prop} {a:Act} {w:World},Q .ret a w→Exit.noGoto Q .ret a w from fun h=>by first|exact h|(unfold Exit.noGoto;exact h)|simpa [Exit.noGoto] using h) ?_
      refine bodyPost_ret (results_none rfl _ _ _) rfl ?_
      exact⟨⟨_,rfl⟩,.inr hX3⟩
   go_wp2_with (go_at_call 99;(with_reducible refine cc.mono ?_);rintro e Wc ⟨rfl,hBc⟩;(have sc:=SC.out Wc (below_two' HW.out hBc));(have HC:=hid (below_two' HW.out hBc));clear cc hBc)
   have bn:Below wr.heap.size wr (Wc.alloc (.cells #[.int .i64 p4.t.kind,.int .i64 0,.string p4.t.text,.int .i64 p4.t.int,.int .u64 p4.t.bits,.int .i64 0,.int .i64 p4.code] 115)):=below_two' HC.out ((z0z _ Wc).alloc (z1z _) _)
   have sc2:=SC.out _ bn
   replace HW:=hid bn
   clear sc bn HC
   generalize Wc.alloc (.cells #[.int .i64 p4.t.kind,.int .i64 0,.string p4.t.text,.int .i64 p4.t.int,.int .u64 p4.t.bits,.int .i64 0,.int .i64 p4.code] 115)=Wn at *
   rw[rounds_succ]
   have cc:=C5.out _ HW.out
   unfold pv at cc
   by_cases z5:p5.size=0
   rotate_left 1
   ·have ep:=hid (show pieceP (s.data.toList.drop a)=p5 from EP5.out z0 z1 z2 z3 z4 )
    have hz:=hid (show p5.size≤s.size-a by have:=piece_le (s.data.toList.drop a);rw[ep.out,z2z,size_list] at this;exact this)
    obtain⟨ha,hf,hv,hJ⟩:=A2.out
    have nl:¬s.data.toList.length≤a:=by rw[size_list];omega
    obtain⟨f',rfl⟩:∃f',f=f'+1:=⟨f-1,by omega⟩
    have e1:z6z.wrap ((a:Int)+(p5.size:Nat))=((a+p5.size:Nat):Int):=by have:=HS.out;have:=hz.out;rw[z7z];omega
    have FA:=hid (z3z ha hf)
    by_cases co:p5.code=0
    ·by_cases kd:p5.t.kind=0
     ·have hv2:=hid (hv.trans (toks_gap nl ep.out z5 co kd))
      have HJ:=hid hJ
      clear ha hf hv hJ nl A2
      rw[co,kd] at cc
      go_wp2_with (go_at_call 100;(with_reducible refine cc.mono ?_);rintro e Wc ⟨rfl,hBc⟩;(have sc:=SC.out Wc (below_two' HW.out hBc));(have HC:=hid (below_two' HW.out hBc));clear cc hBc)
      go_roundw
      case rel=>exact⟨a+p5.size,f',i,D,by go_num,by have:=hz.out;omega,by have:=FA.out;omega,hv2.out,HBe.out i D wr _ HJ.out (below_two' HC.out ((z0z _ Wc).alloc (z1z _) _))⟩
      case measure=>have:=hz.out;simp[intOf];omega
     ·obtain⟨hi,hx,hr⟩:=get_of_drop (hv.trans (toks_tok nl ep.out z5 co kd))
      have HR:=hid hr
      have HJ:=hid hJ
      have DK:=hid (HL.out i D wr hJ).2
      clear ha hf hv hJ nl A2 hr
      rw[co] at cc
      go_upto_region 13 with(go_at_call 100;(with_reducible refine cc.mono ?_);rintro e Wc ⟨rfl,hBc⟩;(have sc:=SC.out Wc (below_two' HW.out hBc));(have HC:=hid (below_two' HW.out hBc));clear cc hBc)
      have bn:Below wr.heap.size wr (Wc.alloc (.cells #[.int .i64 p5.t.kind,.int .i64 (a:Nat),.string p5.t.text,.int .i64 p5.t.int,.int .u64 p5.t.bits,.int .i64 (p5.size:Nat),.int .i64 0] 115)):=below_two' HC.out ((z0z _ Wc).alloc (z1z _) _)
      have yy:=HY.out i hi D _ (HBe.out i D wr _ HJ.out bn)
      rw[hx] at yy
      have y2:YieldAt Fence.wide (n-1) prog l #[.agg #[.int .i64 p5.t.kind,.int .i64 (a:Nat),.string p5.t.text,.int .i64 p5.t.int,.int .u64 p5.t.bits],.agg #[.int .i64 0,.int .i64 0]] (Wc.alloc (.cells #[.int .i64 p5.t.kind,.int .i64 (a:Nat),.string p5.t.text,.int .i64 p5.t.int,.int .u64 p5.t.bits,.int .i64 (p5.size:Nat),.int .i64 0] 115)) fun e W'=>(e=.returned (.bool true)∧(∃D',J (i+1) D' W')∧(∀k,k<(Wc.alloc (.cells #[.int .i64 p5.t.kind,.int .i64 (a:Nat),.string p5.t.text,.int .i64 p5.t.int,.int .u64 p5.t.bits,.int .i64 (p5.size:Nat),.int .i64 0] 115)).heap.size→¬D k→W'.heap[k]? = (Wc.alloc (.cells #[.int .i64 p5.t.kind,.int .i64 (a:Nat),.string p5.t.text,.int .i64 p5.t.int,.int .u64 p5.t.bits,.int .i64 (p5.size:Nat),.int .i64 0] 115)).heap[k]?))∨(e=.returned (.bool false)∧X W'):=yy
      obtain⟨fn',tmps,assign,body,hy,hR⟩:=y2
      have nD:=hid (show ¬D Wc.heap.size from fun h=>by have:=DK.out _ h;have:=HC.out.size;omega)
      clear yy bn hx hi
      refine(wpIn_wide (n:=n)).1 ?_
      gi_wp2
      refine hR.mono ?_
      rintro e W3 (⟨rfl,hK3,hkeep⟩|⟨rfl,hX3⟩)
      ·have hr3:W3.heap[Wc.heap.size]? = some (.cells #[.int .i64 p5.t.kind,.int .i64 (a:Nat),.string p5.t.text,.int .i64 p5.t.int,.int .u64 p5.t.bits,.int .i64 (p5.size:Nat),.int .i64 0] 115):=(hkeep _ (by rw[z8z];omega) nD.out).trans (z4z Wc _)
       have ec:=row_cellsX hr3
       have K3:=hid hK3
       clear hK3 hkeep hr3 hy hR
       gi_wp2
       go_wp2
       go_roundw
       case rel=>
        obtain⟨D',hD'⟩:=K3.out
        exact⟨a+p5.size,f',i+1,D',by go_num,by have:=hz.out;omega,by have:=FA.out;omega,HR.out,hD'⟩
       case measure=>have:=hz.out;simp[intOf];omega
      ·clear hy hR
       gi_wp2
       go_wp2
       refine(show ∀ {Q:Exit→Act→World→Prop} {a:Act} {w:World},Q .ret a w→Exit.noGoto Q .ret a w from fun h=>by first|exact h|(unfold Exit.noGoto;exact h)|simpa [Exit.noGoto] using h) ?_
       refine bodyPost_ret (results_none rfl _ _ _) rfl ?_
       exact⟨⟨_,rfl⟩,.inr hX3⟩
    ·obtain⟨hi,hx,he⟩:=last_of_drop (hv.trans (toks_bad nl ep.out z5 co))
     have HE:=hid he
     have HJ:=hid hJ
     clear ha hf hv hJ nl A2 he
     go_upto_region 10 with(go_at_call 100;(with_reducible refine cc.mono ?_);rintro e Wc ⟨rfl,hBc⟩;(have sc:=SC.out Wc (below_two' HW.out hBc));(have HC:=hid (below_two' HW.out hBc));clear cc hBc)
     have bn:Below wr.heap.size wr (Wc.alloc (.cells #[.int .i64 p5.t.kind,.int .i64 0,.string p5.t.text,.int .i64 p5.t.int,.int .u64 p5.t.bits,.int .i64 (p5.size:Nat),.int .i64 p5.code] 115)):=below_two' HC.out ((z0z _ Wc).alloc (z1z _) _)
     have yy:=HY.out i hi D _ (HBe.out i D wr _ HJ.out bn)
     rw[hx] at yy
     have y2:YieldAt Fence.wide (n-1) prog l #[.agg #[.int .i64 0,.int .i64 0,.string ⟨#[]⟩,.int .i64 0,.int .u64 0],.agg #[.int .i64 p5.code,.int .i64 (a:Nat)]] (Wc.alloc (.cells #[.int .i64 p5.t.kind,.int .i64 0,.string p5.t.text,.int .i64 p5.t.int,.int .u64 p5.t.bits,.int .i64 (p5.size:Nat),.int .i64 p5.code] 115)) fun e W'=>(e=.returned (.bool true)∧(∃D',J (i+1) D' W')∧(∀k,k<(Wc.alloc (.cells #[.int .i64 p5.t.kind,.int .i64 0,.string p5.t.text,.int .i64 p5.t.int,.int .u64 p5.t.bits,.int .i64 (p5.size:Nat),.int .i64 p5.code] 115)).heap.size→¬D k→W'.heap[k]? = (Wc.alloc (.cells #[.int .i64 p5.t.kind,.int .i64 0,.string p5.t.text,.int .i64 p5.t.int,.int .u64 p5.t.bits,.int .i64 (p5.size:Nat),.int .i64 p5.code] 115)).heap[k]?))∨(e=.returned (.bool false)∧X W'):=yy
     obtain⟨fn',tmps,assign,body,hy,hR⟩:=y2
     clear yy bn hx hi
     refine(wpIn_wide (n:=n)).1 ?_
     gi_wp2
     refine hR.mono ?_
     rintro e W3 (⟨rfl,hK3,-⟩|⟨rfl,hX3⟩)
     ·rw[HE.out] at hK3
      clear hy hR
      gi_wp2
      go_wp2
      refine(show ∀ {Q:Exit→Act→World→Prop} {a:Act} {w:World},Q .ret a w→Exit.noGoto Q .ret a w from fun h=>by first|exact h|(unfold Exit.noGoto;exact h)|simpa [Exit.noGoto] using h) ?_
      refine bodyPost_ret (results_none rfl _ _ _) rfl ?_
      exact⟨⟨_,rfl⟩,.inl hK3⟩
     ·clear hy hR
      gi_wp2
      go_wp2
      refine(show ∀ {Q:Exit→Act→World→Prop} {a:Act} {w:World},Q .ret a w→Exit.noGoto Q .ret a w from fun h=>by first|exact h|(unfold Exit.noGoto;exact h)|simpa [Exit.noGoto] using h) ?_
      refine bodyPost_ret (results_none rfl _ _ _) rfl ?_
      exact⟨⟨_,rfl⟩,.inr hX3⟩
   go_wp2_with (go_at_call 100;(with_reducible refine cc.mono ?_);rintro e Wc ⟨rfl,hBc⟩;(have sc:=SC.out Wc (below_two' HW.out hBc));(have HC:=hid (below_two' HW.out hBc));clear cc hBc)
   have bn:Below wr.heap.size wr (Wc.alloc (.cells #[.int .i64 p5.t.kind,.int .i64 0,.string p5.t.text,.int .i64 p5.t.int,.int .u64 p5.t.bits,.int .i64 0,.int .i64 p5.code] 115)):=below_two' HC.out ((z0z _ Wc).alloc (z1z _) _)
   have sc2:=SC.out _ bn
   replace HW:=hid bn
   clear sc bn HC
   generalize Wc.alloc (.cells #[.int .i64 p5.t.kind,.int .i64 0,.string p5.t.text,.int .i64 p5.t.int,.int .u64 p5.t.bits,.int .i64 0,.int .i64 p5.code] 115)=Wn at *
   rw[rounds_succ]
   obtain⟨ha,hf,hv,hJ⟩:=A2.out
   have nl:¬s.data.toList.length≤a:=by rw[size_list];omega
   obtain⟨f',rfl⟩:∃f',f=f'+1:=⟨f-1,by omega⟩
   obtain⟨hi,hx,he⟩:=last_of_drop (hv.trans (toks_none nl (EP5.out z0 z1 z2 z3 z4) z5))
   have yy:=HY.out i hi D _ (HBe.out i D wr _ hJ HW.out)
   rw[hx] at yy
   have y2:YieldAt Fence.wide (n-1) prog l #[.agg #[.int .i64 0,.int .i64 0,.string ⟨#[]⟩,.int .i64 0,.int .u64 0],.agg #[.int .i64 60,.int .i64 (a:Nat)]] Wn fun e W'=>(e=.returned (.bool true)∧(∃D',J (i+1) D' W')∧(∀k,k<Wn.heap.size→¬D k→W'.heap[k]? = Wn.heap[k]?))∨(e=.returned (.bool false)∧X W'):=yy
   obtain⟨fn',tmps,assign,body,hy,hR⟩:=y2
   have HE:=hid he
   clear ha hf hv hJ nl A2 he yy hx hi
   go_upto_region 16 with fail
   refine(wpIn_wide (n:=n)).1 ?_
   gi_wp2
   refine hR.mono ?_
   rintro e W3 (⟨rfl,hK3,-⟩|⟨rfl,hX3⟩)
   ·rw[HE.out] at hK3
    clear hy hR
    gi_wp2
    go_wp2
    refine(show ∀ {Q:Exit→Act→World→Prop} {a:Act} {w:World},Q .ret a w→Exit.noGoto Q .ret a w from fun h=>by first|exact h|(unfold Exit.noGoto;exact h)|simpa [Exit.noGoto] using h) ?_
    refine bodyPost_ret (results_none rfl _ _ _) rfl ?_
    exact⟨⟨_,rfl⟩,.inl hK3⟩
   ·clear hy hR
    gi_wp2
    go_wp2
    refine(show ∀ {Q:Exit→Act→World→Prop} {a:Act} {w:World},Q .ret a w→Exit.noGoto Q .ret a w from fun h=>by first|exact h|(unfold Exit.noGoto;exact h)|simpa [Exit.noGoto] using h) ?_
    refine bodyPost_ret (results_none rfl _ _ _) rfl ?_
    exact⟨⟨_,rfl⟩,.inr hX3⟩
  ·have c':¬ (a:Int)<s.size:=by omega
   obtain⟨f',rfl⟩:∃f',f=f'+1:=⟨f-1,by omega⟩
   obtain⟨hi,hx,he⟩:=last_of_drop (hv.trans (toks_end (by rw[size_list];omega)))
   have yy:=HY.out i hi D _ hJ
   rw[hx] at yy
   have y2:YieldAt Fence.wide (n-1) prog l #[.agg #[.int .i64 7,.int .i64 (a:Nat),.string ⟨#[]⟩,.int .i64 0,.int .u64 0],.agg #[.int .i64 0,.int .i64 0]] wr fun e W'=>(e=.returned (.bool true)∧(∃D',J (i+1) D' W')∧(∀k,k<wr.heap.size→¬D k→W'.heap[k]? = wr.heap[k]?))∨(e=.returned (.bool false)∧X W'):=yy
   obtain⟨fn',tmps,assign,body,hy,hR⟩:=y2
   have HE:=hid he
   clear ha hf hv hJ he yy hx hi
   go_upto_region 17 with fail
   refine(wpIn_wide (n:=n)).1 ?_
   gi_wp2
   refine hR.mono ?_
   rintro e W3 (⟨rfl,hK3,-⟩|⟨rfl,hX3⟩)
   ·rw[HE.out] at hK3
    clear hy hR
    gi_wp2
    go_wp2
    refine(show ∀ {Q:Exit→Act→World→Prop} {a:Act} {w:World},Q .normal a w→Exit.noGoto Q .normal a w from fun h=>by first|exact h|(unfold Exit.noGoto;exact h)|simpa [Exit.noGoto] using h) ?_
    go_end0
    exact⟨⟨_,rfl⟩,.inl hK3⟩
   ·clear hy hR
    gi_wp2
    go_wp2
    refine(show ∀ {Q:Exit→Act→World→Prop} {a:Act} {w:World},Q .normal a w→Exit.noGoto Q .normal a w from fun h=>by first|exact h|(unfold Exit.noGoto;exact h)|simpa [Exit.noGoto] using h) ?_
    go_end0
    exact⟨⟨_,rfl⟩,.inr hX3⟩
end Go.Proofs.YtfmioihcaohgiaaGreatDoor.W
