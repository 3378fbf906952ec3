import Derived.Test.YtfmioihcaohgiaaGreatDoorJX
import Derived.Test.YtfmioihcaohgiaaGreatDoorJZ
open Go.Proofs.Tryz
set_option maxRecDepth 1000000
set_option maxHeartbeats 8000000
namespace Go.Proofs.YtfmioihcaohgiaaGreatDoor.W.Tr
set_option linter.unusedVariables false
set_option linter.unusedSimpArgs false
def sz(f:Fo):Nat:=(rowF f).length
theorem sz_nil:sz .nil=0:=rfl
theorem sz_cons(n:Nd)(k r:Fo):sz (.cons n k r)=sz k+sz r+1:=by simp[sz,rowF]
theorem sz_app(f g:Fo):sz (f.app g)=sz f+sz g:=by simp[sz,rowF_app]
theorem sz_one(n:Nd)(k:Fo):sz (Fo.one n k)=sz k+1:=by simp[Fo.one,sz_cons,sz_nil]
def Wp{α:Type}(x:Pm α)(s:Cs)(Q:α→Cs→Prop):Prop:=∀a s',x s=some (.ok (a,s'))→Q a s'
section
variable {α β:Type} {s:Cs}
theorem Wp.bind{x:Pm α}{f:α→Pm β}{Q:β→Cs→Prop}(h:Wp x s (fun a s'=>Wp (f a) s' Q)):Wp (x.bind f) s Q:=by
 intro b s2 e
 unfold Pm.bind at e
 cases hx:x s with
 | none=>rw[hx] at e;cases e
 | some r=>
  rw[hx] at e
  cases r with
  | error _=>cases e
  | ok p=>
   obtain⟨a,s1⟩:=p
   exact h a s1 hx b s2 e
theorem Wp.pure{a:α}{Q:α→Cs→Prop}(h:Q a s):Wp (Pm.pure a) s Q:=by
 intro b s2 e
 cases e
 exact h
theorem Wp.fail{e:Flt}{Q:α→Cs→Prop}:Wp (failM e) s Q:=by
 intro b s2 e
 cases e
theorem Wp.look{Q:Yd→Cs→Prop}(h:∀y,Q y s):Wp lookM s Q:=by
 intro b s2 e
 unfold lookM at e
 cases hl:Tr.look s with
 | error _=>rw[hl] at e;cases e
 | ok y=>rw[hl] at e;cases e;exact h _
theorem Wp.st{Q:Cs→Cs→Prop}(h:Q s s):Wp stM s Q:=by
 intro b s2 e
 cases e
 exact h
theorem Wp.take{Q:Yd→Cs→Prop}(h:∀y s',s'.r.length+1≤s.r.length→Q y s'):Wp takeM s Q:=by
 intro b s2 e
 unfold takeM at e
 cases hl:Tr.look s with
 | error _=>rw[hl] at e;cases e
 | ok y=>
  rw[hl] at e
  cases e
  refine h _ _ ?_
  unfold Tr.look at hl
  cases hr:s.r with
  | nil=>rw[hr] at hl;cases hl
  | cons z zs=>simp[behind,hr]
theorem Wp.ite{c:Prop}[Decidable c]{x y:Pm α}{Q:α→Cs→Prop}(h:c→Wp x s Q)(g:¬c→Wp y s Q):Wp (if c then x else y) s Q:=by
 by_cases k:c
 ·rw[if_pos k];exact h k
 ·rw[if_neg k];exact g k
theorem Wp.want{t:ByteArray}{Q:Yd→Cs→Prop}(h:∀y s',s'.r.length+1≤s.r.length→Q y s'):Wp (wantM t) s Q:=
 Wp.bind (Wp.look fun y=>Wp.ite (fun _=>Wp.take h) (fun _=>Wp.fail))
theorem Wp.name{Q:Yd→Cs→Prop}(h:∀y s',s'.r.length+1≤s.r.length→Q y s'):Wp nameM s Q:=
 Wp.bind (Wp.look fun y=>Wp.ite (fun _=>Wp.take h) (fun _=>Wp.fail))
end
def base:Nt→Nat
 | .exT l=>sz l | .cjT l=>sz l | .bnT _ l=>sz l | .poT l=>sz l | .lsT _ l=>sz l | .pg l=>sz l+1 | .blT l=>sz l | .asg _ ks=>sz ks
 | _=>0
theorem nodes_le:∀ (n:Nat) (nt:Nt) (s:Cs),Wp (P n nt) s (fun a s'=>sz a+s'.r.length≤base nt+s.r.length)
 | 0,nt,s=>by intro a s' e;cases e
 | n+1,nt,s=>by
  have ih:∀ (nt:Nt) (s:Cs) (Q:Fo→Cs→Prop),(∀a s',sz a+s'.r.length≤base nt+s.r.length→Q a s')→Wp (P n nt) s Q:=fun nt s Q h a s' e=>h a s' (nodes_le n nt s a s' e)
  cases nt with
  | pl=>
   unfold P
   refine Wp.bind (ih _ _ _ fun f s1 h1=>?_)
   refine Wp.bind (Wp.look fun z=>?_)
   cases f with
   | nil=>(repeat' (first|(with_reducible refine Wp.want ?_;intro _ _ _)|(with_reducible refine Wp.name ?_;intro _ _ _)|(with_reducible refine Wp.bind ?_)|(with_reducible refine Wp.look ?_;intro _)|(with_reducible refine Wp.take ?_;intro _ _ _)|(with_reducible refine Wp.st ?_)|(with_reducible exact Wp.fail)|(with_reducible refine Wp.pure ?_)|(with_reducible refine ih _ _ _ ?_;intro _ _ _)|(with_reducible refine Wp.ite ?_ ?_ <;> intro _)));clear ih;(simp only[base,sz_one,sz_app,sz_nil,sz_cons] at *;omega)
   | cons m ks r=>(repeat' (first|(with_reducible refine Wp.want ?_;intro _ _ _)|(with_reducible refine Wp.name ?_;intro _ _ _)|(with_reducible refine Wp.bind ?_)|(with_reducible refine Wp.look ?_;intro _)|(with_reducible refine Wp.take ?_;intro _ _ _)|(with_reducible refine Wp.st ?_)|(with_reducible exact Wp.fail)|(with_reducible refine Wp.pure ?_)|(with_reducible refine ih _ _ _ ?_;intro _ _ _)|(with_reducible refine Wp.ite ?_ ?_ <;> intro _))) <;> clear ih <;> (simp only[base,sz_one,sz_app,sz_nil,sz_cons] at *;omega)
  | lb=>
   unfold P
   (repeat' (first|(with_reducible refine Wp.want ?_;intro _ _ _)|(with_reducible refine Wp.name ?_;intro _ _ _)|(with_reducible refine Wp.bind ?_)|(with_reducible refine Wp.look ?_;intro _)|(with_reducible refine Wp.take ?_;intro _ _ _)|(with_reducible refine Wp.st ?_)|(with_reducible exact Wp.fail)|(with_reducible refine Wp.pure ?_)|(with_reducible refine ih _ _ _ ?_;intro _ _ _)|(with_reducible refine Wp.ite ?_ ?_ <;> intro _)))
   all_goals clear ih
   ·rename_i f s1 h1
    cases f with
    | nil=>(simp only[base,sz_one,sz_app,sz_nil,sz_cons] at *;omega)
    | cons m ks r=>(simp only[base,sz_one,sz_app,sz_nil,sz_cons] at *;omega)
   ·rename_i f s1 h1
    cases f with
    | nil=>(simp only[base,sz_one,sz_app,sz_nil,sz_cons] at *;omega)
    | cons m ks r=>(simp only[base,sz_one,sz_app,sz_nil,sz_cons] at *;omega)
  | _=>
   unfold P
   (repeat' (first|(with_reducible refine Wp.want ?_;intro _ _ _)|(with_reducible refine Wp.name ?_;intro _ _ _)|(with_reducible refine Wp.bind ?_)|(with_reducible refine Wp.look ?_;intro _)|(with_reducible refine Wp.take ?_;intro _ _ _)|(with_reducible refine Wp.st ?_)|(with_reducible exact Wp.fail)|(with_reducible refine Wp.pure ?_)|(with_reducible refine ih _ _ _ ?_;intro _ _ _)|(with_reducible refine Wp.ite ?_ ?_ <;> intro _)))
   all_goals clear ih
   all_goals (first|(simp only[base,sz_one,sz_app,sz_nil,sz_cons] at *;omega)|(split at * <;> (simp only[base,sz_one,sz_app,sz_nil,sz_cons] at *;omega)))
theorem row_le{n:Nat}{s s':Cs}{fo:Fo}(h:P n (.pg .nil) s=some (.ok (fo,s'))):(rowF fo).length≤s.r.length+1:=by
 have:=nodes_le n (.pg .nil) s fo s' h
 simp only[base,sz_nil] at this
 unfold sz at this
 omega
open Go.ChangeShapes Go.WideShapes Go.RowKit Go.Shelf
def Ends(l:List UInt8)(r:Rs Fo):Prop:=∃n,P n (.pg .nil) ⟨srcY l,0⟩=some r
theorem ends(l:List UInt8):∃r,Ends l r:=by
 obtain⟨n,r,h⟩:=P_ends (.pg .nil) ⟨srcY l,0⟩
 exact⟨r,n,h⟩
theorem src_short(l:List UInt8):(srcY l).length≤65537:=by
 have:=srcY_len l
 by_cases h:65536<l.length
 ·unfold srcY
  rw[if_pos h]
  simp
 ·omega
theorem Ends.few{l:List UInt8}{fo:Fo}{s':Cs}(h:Ends l (.ok (fo,s'))):(rowF fo).length≤65538:=by
 obtain⟨n,h⟩:=h
 have:=row_le h
 have:=src_short l
 simp only at *
 omega
theorem parse_bad(s:ByteArray)(hs:s.size≤1000000)(w:World)(ht:Tabs w)(hm:MarksIn w){f:Flt}(h:Ends s.data.toList (.error f)) :
  Calls prog 14 #[.string s] w fun e w'=>e=.returned (.tuple #[.slice none 0 0,fv f])∧Below w.heap.size w w':=by
 obtain⟨n,h⟩:=h
 exact parse_err s hs w ht hm n f h
theorem parse_good(s:ByteArray)(hs:s.size≤1000000)(w:World)(ht:Tabs w)(hm:MarksIn w){fo:Fo}{s':Cs}(h:Ends s.data.toList (.ok (fo,s'))) :
  Calls prog 14 #[.string s] w fun e w'=>∃r,e=.returned (.tuple #[r,fv (0,0)])∧Below w.heap.size w w'∧w'.ownsRow w.heap.size 40 6 r (rowF fo).length (rowsN (rowF fo)):=by
 have hb:=h.few
 obtain⟨n,h⟩:=h
 exact parse_ok s hs w ht hm n fo s' h (by omega)
def isOk(r:Option (Rs Fo)):Option Fo:=match r with|some (.ok (f,_))=>some f|_=>none
def backS(bk:List ByteArray):List (Array Value):=(List.range bk.length).map fun j=>#[.int .i64 ((bk.length-1-j:Nat):Int),Value.string (bk.getD (bk.length-1-j) ⟨#[]⟩)]
theorem backS_len(bk:List ByteArray):(backS bk).length=bk.length:=by simp[backS]
theorem backS_at(bk:List ByteArray)(j:Nat)(hj:j<(backS bk).length):(backS bk)[j] = #[.int .i64 ((bk.length-1-j:Nat):Int),Value.string (bk.getD (bk.length-1-j) ⟨#[]⟩)]:=by simp[backS]
theorem own_str{W:World}{m:Nat}{v:Value}{bk:List ByteArray}(h:W.ownsRow m 9 1 v bk.length (bk.map Value.string)){i:Nat}(hi:i<bk.length):∃g c,v=.slice (some ⟨g,0,none⟩) bk.length c∧bk.length≤c∧W.cell? ⟨g,i,none⟩=some (Value.string (bk.getD i ⟨#[]⟩)):=by
 rcases h.2 with⟨_,e0⟩|⟨g,c,cur,rfl,h2,h3,h4,h5,h6,h7⟩
 ·omega
 ·refine⟨g,c,rfl,h4,?_⟩
  have e1:(bk.map Value.string)[i]? = some (Value.string (bk.getD i ⟨#[]⟩)):=by
   rw[List.getElem?_map,List.getD_eq_getElem?_getD,List.getElem?_eq_getElem hi];rfl
  rw[cell_of_row _ g _ _ _ _ h3,← e1,← h7,List.getElem?_take,if_pos (by omega),Array.getElem?_toList]
theorem backS_c(o:Option Addr)(l c:Nat)(w:World):Calls prog 76 #[.slice o l c] w fun e w'=>e=.returned (.func (.func 108) #[] #[.pointer (some ⟨w.heap.size,0,none⟩)])∧w'=w.alloc (.cells #[.slice o l c] 92):=by
 go_enter func76,ntmps76
 go_wp2
 go_ret
 exact⟨rfl,rfl⟩
theorem eg_backS:∀args w,(callFunc 108 args).run prog w=.ok (.enter 108 args) w:=enters_of func108 (by kernel_rfl) rfl
theorem backS_iter(sb m:Nat)(v:Value)(bk:List ByteArray)(hl:bk.length≤2000000):IterD 108 #[.pointer (some ⟨sb,0,none⟩)] (backS bk) (fun W=>W.cell? ⟨sb,0,none⟩=some v∧W.ownsRow m 9 1 v bk.length (bk.map Value.string)):=by
 intro n l J X hn hL hB hY D0 W h0
 show CallsIn Fence.wide n prog 108 #[.func (.yield l) #[] #[],.pointer (some ⟨sb,0,none⟩)] W fun e W'=>(∃v,e=.returned v)∧((∃D',J (backS bk).length D' W')∨X W')
 obtain⟨⟨g0,g1⟩,-⟩:=hL 0 D0 W h0
 obtain⟨o,cap,rfl⟩:=slice_ofX g1
 clear g1
 have HL:=hid hL
 have HY:=hid hY
 have H0:=hid h0
 have e0:IntKind.i64.wrap ((bk.length:Int)-1)=(bk.length:Int)-1:=by rw[IntKind.wrap_i64];omega
 refine callsIn_of_wp func108 rfl trivial ?_ rfl
 simp only[ntmps108,List.size_toArray,List.length_cons,List.length_nil,Nat.reduceAdd,Nat.reduceSub,Array.replicate_succ,Array.replicate_zero,List.push_toArray,List.append_toArray,List.nil_append,List.cons_append]
 clear hY hL hB h0
 refine wpIn_wide.2 ?_
 go_upto_region 1 with fail
 go_loopw [3] (fun i' wr=>∃ (k j:Nat) (D:Nat→Prop),k+j=bk.length∧i'=.int .i64 ((k:Int)-1)∧J j D wr) (fun i' _=>((intOf i')+1).toNat)
 case atStart=>exact⟨bk.length,0,D0,rfl,rfl,H0.out⟩
 case round=>
  obtain⟨k,j,D,hk,rfl,hJ⟩:=hrel
  clear H0 g0
  obtain⟨gr,gw⟩:=(HL.out j D wr hJ).1
  cases k with
  | zero=>
   have b0:¬ ((0:Nat):Int)-1≥0:=by omega
   have hj:j=bk.length:=by omega
   subst hj
   have HJ:=hid hJ
   clear hJ hk gr gw e0
   go_wp2
   go_end0
   exact⟨⟨_,rfl⟩,.inl ⟨D,by rw[backS_len];exact HJ.out⟩⟩
  | succ i=>
   have ei:((i+1:Nat):Int)-1=(i:Nat):=by omega
   rw[ei]
   have hi:i<bk.length:=by omega
   have hj:j<(backS bk).length:=by rw[backS_len];omega
   obtain⟨g,c,eo,hc,hcell⟩:=own_str gw hi
   simp only[Value.slice.injEq,true_and] at eo
   obtain⟨rfl,rfl⟩:=eo
   have yy:=HY.out j hj D _ hJ
   rw[backS_at,show bk.length-1-j=i by omega] at yy
   generalize bk.getD i ⟨#[]⟩=b at *
   have y2:YieldAt Fence.wide (n-1) prog l #[.int .i64 (i:Nat),Value.string b] wr fun e W'=>(e=.returned (.bool true)∧(∃D',J (j+1) D' W')∧(∀k,k<wr.heap.size→¬D k→W'.heap[k]? = wr.heap[k]?))∨(e=.returned (.bool false)∧X W'):=yy
   obtain⟨fn',tmps,assign,body,hy,hR⟩:=y2
   have b0:((i:Nat):Int)≥0:=by omega
   have e1:IntKind.i64.wrap ((i:Int)-1)=(i:Int)-1:=by rw[IntKind.wrap_i64];omega
   have i1:0≤(i:Int)∧(i:Int)<bk.length:=by omega
   have HK:=hid hk
   clear yy hJ hk gw e0
   go_upto_region 3 with fail
   refine(wpIn_wide (n:=n)).1 ?_
   gi_wp2
   refine hR.mono ?_
   rintro e W3 (⟨rfl,hK3,-⟩|⟨rfl,hX3⟩)
   ·have K3:=hid hK3
    clear hK3 hy hR
    gi_wp2
    go_wp2
    go_roundw
    case rel=>
     obtain⟨D',hD'⟩:=K3.out
     exact⟨i,j+1,D',by have:=HK.out;omega,rfl,hD'⟩
    case measure=>simp[intOf]
   ·clear hy hR
    gi_wp2
    go_wp2
    refine bodyPost_ret (results_none rfl _ _ _) rfl ?_
    exact⟨⟨_,rfl⟩,.inr hX3⟩
end Go.Proofs.YtfmioihcaohgiaaGreatDoor.W.Tr
