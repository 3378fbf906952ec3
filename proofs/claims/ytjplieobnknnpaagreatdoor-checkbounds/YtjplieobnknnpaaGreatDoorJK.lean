import Derived.Test.YtjplieobnknnpaaGreatDoorJJ
import Derived.Test.YtjplieobnknnpaaGreatDoorJH
import Derived.Test.YtjplieobnknnpaaGreatDoorShelfT
import Derived.WalkLawsBesides
import Derived.Test.YtjplieobnknnpaaGreatDoorJI
import Derived.Test.YtjplieobnknnpaaGreatDoorJG
open List renaming takeWhile_prefix → z3z
open Array renaming getElem?_eq_some_iff → z2z
open Nat renaming le_refl → z0z
open Go.World renaming alloc_heap_new → z4z
open Go.RowKit.Below renaming refl → z1z
open Go.Proofs.Tryz
set_option maxRecDepth 1000000
set_option maxHeartbeats 8000000
namespace Go.Proofs.YtjplieobnknnpaaGreatDoor.W.Tr
open Go.ChangeShapes Go.WideShapes Go.RowKit Go.Shelf
set_option linter.unusedVariables false
set_option linter.unusedSimpArgs false
theorem Av(x:ByteArray)(l:List UInt8):decide (x=(⟨l.toArray⟩:ByteArray))=(x.toList==l):=by
 rw[ByteArray.toList_eq]
 cases h:(x.data.toList==l) with
 | true=>
  have e:x.data.toList=l:=eq_of_beq h
  have e2:x=⟨l.toArray⟩:=by rw[<- e]
  exact decide_eq_true e2
 | false=>
  refine decide_eq_false λe=>?_
  rw[e] at h
  simp at h
theorem JM(t:Tk)(a:Int)(W:World):Calls prog 53 #[tv t a] W λe w'=>e=.returned (.string (AP t))/\Below W.heap.size W w':=by
 unfold tv
 by_cases h2:t.kind=2
 ·have hx:AP t=t.text:=by simp[AP,h2]
  rw[hx]
  have b2:(t.kind==2)=true:=by simp[h2]
  clear h2 hx
  go_enter func53,ntmps53
  go_wp2
  go_ret
  exact⟨rfl,(z1z _ _).alloc (z0z _) _⟩
 ·have b2:(t.kind==2)=false:=by simp[h2]
  by_cases h3:t.kind=3
  ·have hx:AP t=t.text:=by simp[AP,h3]
   rw[hx]
   have b3:(t.kind==3)=true:=by simp[h3]
   clear h2 h3 hx
   go_enter func53,ntmps53
   go_wp2
   go_ret
   exact⟨rfl,(z1z _ _).alloc (z0z _) _⟩
  ·have hx:AP t=⟨#[]⟩:=by simp[AP,h2,h3]
   rw[hx]
   have b3:(t.kind==3)=false:=by simp[h3]
   clear h2 h3 hx
   go_enter func53,ntmps53
   go_wp2
   go_ret
   exact⟨rfl,(z1z _ _).alloc (z0z _) _⟩
theorem Yh(t:Tk)(a:Int)(W:World):Calls prog 51 #[tv t a] W λe w'=>e=.returned (.bool (Gm t))/\Below W.heap.size W w':=by
 have cf:=JM t a
 have ho:Gm t=(((AP t).toList==[40]||(AP t).toList==[91])||(AP t).toList==[123]):=by rw[<- Av,<- Av,<- Av];rfl
 rw[ho]
 clear ho
 unfold tv at *
 generalize AP t=x at *
 go_enter func51,ntmps51
 go_upto_region 2 with(go_at_call 53;(with_reducible refine(cf _).mono ?_);rintro e w2 ⟨rfl,b2⟩;clear cf)
 have hB:Below W.heap.size W w2:=((z1z _ W).alloc (z0z _) _).trans (b2.mono (by simp))
 have HB:=hid hB
 clear hB b2
 cases h1:(x.toList==[40])
 ·cases h2:(x.toList==[91])
  ·cases h3:(x.toList==[123]) <;> (go_wp2;go_ret;exact⟨by first|(rw[h1,h2,h3];rfl)|(rw[h1,h2];rfl)|(rw[h1];rfl),HB.out⟩)
  ·go_wp2
   go_ret
   exact⟨by first|(rw[h1,h2,h3];rfl)|(rw[h1,h2];rfl)|(rw[h1];rfl),HB.out⟩
 ·go_wp2
  go_ret
  exact⟨by first|(rw[h1,h2,h3];rfl)|(rw[h1,h2];rfl)|(rw[h1];rfl),HB.out⟩
theorem xO(t:Tk)(a:Int)(W:World):Calls prog 133 #[tv t a] W λe w'=>e=.returned (.bool (J8 t))/\Below W.heap.size W w':=by
 have cf:=JM t a
 have ho:J8 t=(((AP t).toList==[41]||(AP t).toList==[93])||(AP t).toList==[125]):=by rw[<- Av,<- Av,<- Av];rfl
 rw[ho]
 clear ho
 unfold tv at *
 generalize AP t=x at *
 go_enter func133,ntmps133
 go_upto_region 2 with(go_at_call 53;(with_reducible refine(cf _).mono ?_);rintro e w2 ⟨rfl,b2⟩;clear cf)
 have hB:Below W.heap.size W w2:=((z1z _ W).alloc (z0z _) _).trans (b2.mono (by simp))
 have HB:=hid hB
 clear hB b2
 cases h1:(x.toList==[41])
 ·cases h2:(x.toList==[93])
  ·cases h3:(x.toList==[125]) <;> (go_wp2;go_ret;exact⟨by first|(rw[h1,h2,h3];rfl)|(rw[h1,h2];rfl)|(rw[h1];rfl),HB.out⟩)
  ·go_wp2
   go_ret
   exact⟨by first|(rw[h1,h2,h3];rfl)|(rw[h1,h2];rfl)|(rw[h1];rfl),HB.out⟩
 ·go_wp2
  go_ret
  exact⟨by first|(rw[h1,h2,h3];rfl)|(rw[h1,h2];rfl)|(rw[h1];rfl),HB.out⟩
theorem Xc(x:ByteArray)(W:World):Calls prog 145 #[.string x] W λe w'=>e=.returned (.bool (comp x))/\w'=W:=by
 unfold comp
 rw[Av,Av,Av,Av,Av,Av]
 cases h0:(x.toList==[61,61])
 rotate_left
 ·go_enter func145,ntmps145
  go_wp2
  go_ret
  exact⟨rfl,rfl⟩
 cases h1:(x.toList==[33,61])
 rotate_left
 ·go_enter func145,ntmps145
  go_wp2
  go_ret
  exact⟨rfl,rfl⟩
 cases h2:(x.toList==[60])
 rotate_left
 ·go_enter func145,ntmps145
  go_wp2
  go_ret
  exact⟨rfl,rfl⟩
 cases h3:(x.toList==[60,61])
 rotate_left
 ·go_enter func145,ntmps145
  go_wp2
  go_ret
  exact⟨rfl,rfl⟩
 cases h4:(x.toList==[62])
 rotate_left
 ·go_enter func145,ntmps145
  go_wp2
  go_ret
  exact⟨rfl,rfl⟩
 cases h5:(x.toList==[62,61])
 rotate_left
 ·go_enter func145,ntmps145
  go_wp2
  go_ret
  exact⟨rfl,rfl⟩
 go_enter func145,ntmps145
 go_wp2
 go_ret
 exact⟨rfl,rfl⟩
theorem Vl(x:ByteArray)(W:World):Calls prog 146 #[.string x] W λe w'=>e=.returned (.int .i64 (tight x:Nat))/\w'=W:=by
 by_cases g0:x=⟨#[124]⟩
 ·have hx:tight x=1:=by rw[g0];decide
  rw[hx]
  have h0:(x.toList==[124])=true:=by rw[<- Av];simp[g0]
  clear hx g0
  go_enter func146,ntmps146
  go_wp2
  go_ret
  exact⟨rfl,rfl⟩
 have h0:(x.toList==[124])=false:=by rw[<- Av];simp[g0]
 by_cases g1:x=⟨#[94]⟩
 ·have hx:tight x=2:=by rw[g1];decide
  rw[hx]
  have h1:(x.toList==[94])=true:=by rw[<- Av];simp[g1]
  clear hx g1
  go_enter func146,ntmps146
  go_wp2
  go_ret
  exact⟨rfl,rfl⟩
 have h1:(x.toList==[94])=false:=by rw[<- Av];simp[g1]
 by_cases g2:x=⟨#[38]⟩
 ·have hx:tight x=3:=by rw[g2];decide
  rw[hx]
  have h2:(x.toList==[38])=true:=by rw[<- Av];simp[g2]
  clear hx g2
  go_enter func146,ntmps146
  go_wp2
  go_ret
  exact⟨rfl,rfl⟩
 have h2:(x.toList==[38])=false:=by rw[<- Av];simp[g2]
 by_cases g3:x=⟨#[60,60]⟩
 ·have hx:tight x=4:=by rw[g3];decide
  rw[hx]
  have h3:(x.toList==[60,60])=true:=by rw[<- Av];simp[g3]
  clear hx g3
  go_enter func146,ntmps146
  go_wp2
  go_ret
  exact⟨rfl,rfl⟩
 have h3:(x.toList==[60,60])=false:=by rw[<- Av];simp[g3]
 by_cases g4:x=⟨#[62,62]⟩
 ·have hx:tight x=4:=by rw[g4];decide
  rw[hx]
  have h4:(x.toList==[62,62])=true:=by rw[<- Av];simp[g4]
  clear hx g4
  go_enter func146,ntmps146
  go_wp2
  go_ret
  exact⟨rfl,rfl⟩
 have h4:(x.toList==[62,62])=false:=by rw[<- Av];simp[g4]
 by_cases g5:x=⟨#[43]⟩
 ·have hx:tight x=5:=by rw[g5];decide
  rw[hx]
  have h5:(x.toList==[43])=true:=by rw[<- Av];simp[g5]
  clear hx g5
  go_enter func146,ntmps146
  go_wp2
  go_ret
  exact⟨rfl,rfl⟩
 have h5:(x.toList==[43])=false:=by rw[<- Av];simp[g5]
 by_cases g6:x=⟨#[45]⟩
 ·have hx:tight x=5:=by rw[g6];decide
  rw[hx]
  have h6:(x.toList==[45])=true:=by rw[<- Av];simp[g6]
  clear hx g6
  go_enter func146,ntmps146
  go_wp2
  go_ret
  exact⟨rfl,rfl⟩
 have h6:(x.toList==[45])=false:=by rw[<- Av];simp[g6]
 by_cases g7:x=⟨#[42]⟩
 ·have hx:tight x=6:=by rw[g7];decide
  rw[hx]
  have h7:(x.toList==[42])=true:=by rw[<- Av];simp[g7]
  clear hx g7
  go_enter func146,ntmps146
  go_wp2
  go_ret
  exact⟨rfl,rfl⟩
 have h7:(x.toList==[42])=false:=by rw[<- Av];simp[g7]
 by_cases g8:x=⟨#[47]⟩
 ·have hx:tight x=6:=by rw[g8];decide
  rw[hx]
  have h8:(x.toList==[47])=true:=by rw[<- Av];simp[g8]
  clear hx g8
  go_enter func146,ntmps146
  go_wp2
  go_ret
  exact⟨rfl,rfl⟩
 have h8:(x.toList==[47])=false:=by rw[<- Av];simp[g8]
 by_cases g9:x=⟨#[47,47]⟩
 ·have hx:tight x=6:=by rw[g9];decide
  rw[hx]
  have h9:(x.toList==[47,47])=true:=by rw[<- Av];simp[g9]
  clear hx g9
  go_enter func146,ntmps146
  go_wp2
  go_ret
  exact⟨rfl,rfl⟩
 have h9:(x.toList==[47,47])=false:=by rw[<- Av];simp[g9]
 by_cases g10:x=⟨#[37]⟩
 ·have hx:tight x=6:=by rw[g10];decide
  rw[hx]
  have h10:(x.toList==[37])=true:=by rw[<- Av];simp[g10]
  clear hx g10
  go_enter func146,ntmps146
  go_wp2
  go_ret
  exact⟨rfl,rfl⟩
 have h10:(x.toList==[37])=false:=by rw[<- Av];simp[g10]
 have hx:tight x=0:=by simp[tight,g0,g1,g2,g3,g4,g5,g6,g7,g8,g9,g10]
 rw[hx]
 clear hx g0 g1 g2 g3 g4 g5 g6 g7 g8 g9 g10
 go_enter func146,ntmps146
 go_wp2
 go_ret
 exact⟨rfl,rfl⟩
def good(Ys:List Yd):List Yd:=Ys.takeWhile (λy=>decide (y.c=0))
def bad(Ys:List Yd):Ci:=match Ys.drop (good Ys).length with
 | []=>(0,0)
 | y::_=>(y.c,y.f)
def fv(f:Ci):Value:=.agg #[.int .i64 f.1,.int .i64 f.2]
def Aq(f:Ci):Ending:=.panicked [{ v:=.iface 26 (fv f),recovered:=false }]
structure Cu (W:World) (cb:Nat) (Ys:List Yd) (s:Cs) (i:Nat) (v:Value) (t:Ci):Prop where
 top:W.heap[cb]? = some (.cells #[v,.int .i64 (bad Ys).1,.int .i64 (bad Ys).2,.int .i64 (i:Nat),.int .i64 s.o,.int .i64 t.1,.int .i64 t.2] 55 (0,0))
 row:W.ownsRow 0 71 5 v (good Ys).length (IB (good Ys))
 own:∀k,v.ownBlock=some k->k≠cb
 at':s.r=Ys.drop i
 le:i<=(good Ys).length
 lo:-(i:Int)<=s.o
 hi:s.o<=i
 all:Ys.length<=1000002
def KV(W:World)(cb:Nat)(Ys:List Yd)(s:Cs):Prop:=∃i v t,Cu W cb Ys s i v t
def Cv(W:World)(cb:Nat)(Ys:List Yd)(v:Value)(s:Cs):Prop:=∃i t,Cu W cb Ys s i v t
theorem Cv.cur{W:World}{cb:Nat}{Ys:List Yd}{v:Value}{s:Cs}(h:Cv W cb Ys v s):KV W cb Ys s:=by
 obtain⟨i,t,h⟩:=h
 exact⟨i,v,t,h⟩
def Told(W:World)(cb:Nat)(f:Ci):Prop:=∃a b c d e,W.heap[cb]? = some (.cells #[a,b,c,d,e,.int .i64 f.1,.int .i64 f.2] 55 (0,0))
def Err(W:World)(cb:Nat)(f:Ci)(e:Ending)(w':World):Prop:=e=Aq f/\Told w' cb f/\It.AL (λk=>k=cb) W w'
section
variable {W w':World} {cb i:Nat} {Ys:List Yd} {s:Cs} {v:Value} {t f:Ci} {y:Yd} {e:Ending}
theorem aL(Ys:List Yd):(good Ys).length<=Ys.length:=(z3z _).length_le
theorem Cu.len(h:Cu W cb Ys s i v t):(good Ys).length<=1000002:=Nat.le_trans (aL Ys) h.all
theorem Cu.lt(h:Cu W cb Ys s i v t):cb<W.heap.size:=(z2z.1 h.top).1
theorem Cu.below(h:Cu W cb Ys s i v t)(hB:Below W.heap.size W w'):Cu w' cb Ys s i v t:=
 ⟨(hB.block cb h.lt).trans h.top,Bq h.row (λk e=>hB.block k (h.row.lt k e).2),h.own,h.at',h.le,h.lo,h.hi,h.all⟩
theorem KV.below(h:KV W cb Ys s)(hB:Below W.heap.size W w'):KV w' cb Ys s:=by
 obtain⟨i,v,t,h⟩:=h
 exact⟨i,v,t,h.below hB⟩
theorem Err.from{W0:World}(h:Err W cb f e w')(hB:Below W0.heap.size W0 W):Err W0 cb f e w':=⟨h.1,h.2.1,(It.AL.of_below hB).trans' h.2.2⟩
theorem eZ(Ys:List Yd):∀y l,Ys.drop (good Ys).length=y::l->¬y.c=0:=by
 induction Ys with
 | nil=>intro y l h;cases h
 | cons z Ys ih=>
  intro y l h
  unfold good at h ih
  by_cases hz:z.c=0
  ·rw[List.takeWhile_cons_of_pos (by simp[hz])] at h
   exact ih y l (by simpa using h)
  ·rw[List.takeWhile_cons_of_neg (by simp[hz])] at h
   simp at h
   rw[<- h.1]
   exact hz
theorem Cu.end(h:Cu W cb Ys s i v t)(hi:i=(good Ys).length):look s=.error (bad Ys):=by
 unfold look bad
 rw[h.at',hi]
 cases hd:Ys.drop (good Ys).length with
 | nil=>rfl
 | cons y l=>simp[eZ Ys y l hd]
theorem Yg(Ys:List Yd)(i:Nat)(hi:i<(good Ys).length):∃l,Ys.drop i=(good Ys)[i]::l/\((good Ys)[i]).c=0:=by
 have hp:good Ys <+: Ys:=z3z _
 have hlt:i<Ys.length:=Nat.lt_of_lt_of_le hi hp.length_le
 refine⟨Ys.drop (i+1),?_,?_⟩
 ·rw[List.drop_eq_getElem_cons hlt,hp.getElem hi]
 ·have:=List.all_takeWhile (p:=λy:Yd=>decide (y.c=0)) (l:=Ys)
  have h2:=List.all_eq_true.1 this _ (List.getElem_mem hi)
  simpa using h2
theorem Cu.in(h:Cu W cb Ys s i v t)(hi:i<(good Ys).length):look s=(if Gm (good Ys)[i].t=true/\s.o=64 then .error (71,(good Ys)[i].a) else .ok (good Ys)[i])/\∃l,s.r=(good Ys)[i]::l:=by
 obtain⟨l,h1,h2⟩:=Yg Ys i hi
 refine⟨?_,l,by rw[h.at',h1]⟩
 unfold look
 rw[h.at',h1]
 simp[h2]
theorem Pn(h:Cu W cb Ys s i v t)(f:Ci):Calls prog 50 #[.pointer (some ⟨cb,0,none⟩),fv f] W λe w'=>Err W cb f e w':=by
 have c5:W.cell? ⟨cb,5,none⟩=some (.int .i64 t.1):=AO h.top 5
 have c6:W.cell? ⟨cb,6,none⟩=some (.int .i64 t.2):=AO h.top 6
 have z5:=Bj h.top 5
 have z6:=Bj h.top 6
 have hl:=h.lt
 have n1:¬cb=W.heap.size:=by omega
 have n2:¬W.heap.size=cb:=by omega
 have HH:=hid h
 unfold fv
 clear h
 go_enter func50,ntmps50
 go_wp2
 have h:=HH.out
 refine⟨rfl,rfl,?_,?_⟩
 ·have b1:=Bu (c:=[v,.int .i64 (bad Ys).1,.int .i64 (bad Ys).2,.int .i64 (i:Nat),.int .i64 s.o,.int .i64 t.1,.int .i64 t.2]) h.top 5 (.int .i64 f.1)
  have b2:=Bu (c:=[v,.int .i64 (bad Ys).1,.int .i64 (bad Ys).2,.int .i64 (i:Nat),.int .i64 s.o,.int .i64 f.1,.int .i64 t.2]) b1 6 (.int .i64 f.2)
  exact⟨_,_,_,_,_,(Below.heap_alloc _ _ _ (by simp only[World.size_setCell];exact h.lt)).trans b2⟩
 ·exact((((It.AL.refl (λk=>k=cb) W).setCell (p:=⟨cb,5,none⟩) (.inl rfl) _).setCell (p:=⟨cb,6,none⟩) (.inl rfl) _)).trans' (It.AL.of_below ((z1z _ _).alloc (z0z _) _))
end
theorem Yk(L:List Yd)(k j:Nat)(hk:k<L.length)(hj:j<5):(IB L)[k*5+j]? = (Cn L[k])[j]?:=by
 induction L generalizing k with
 | nil=>simp at hk
 | cons y L ih=>
  unfold IB at ih ⊢
  rw[List.flatMap_cons]
  cases k with
  | zero=>
   rw[List.getElem?_append_left (by simp[Cn];omega)]
   simp
  | succ k=>
   have h5:(Cn y).toList.length=5:=rfl
   rw[List.getElem?_append_right (by rw[h5];omega),h5]
   have:=ih k (by simpa using hk)
   have e:(k+1)*5+j-5=k*5+j:=by omega
   rw[e,this]
   rfl
section
variable {W w':World} {cb i:Nat} {Ys:List Yd} {s:Cs} {v:Value} {t f:Ci} {y:Yd} {e:Ending}
theorem Cu.slice(h:Cu W cb Ys s i v t):∃o c,v=.slice o (good Ys).length c:=Ak h.row
theorem iW(h:Cu W cb Ys s i v t)(hi:i=(good Ys).length):Calls prog 32 #[.pointer (some ⟨cb,0,none⟩)] W λe w'=>Err W cb (bad Ys) e w':=by
 obtain⟨o,c,rfl⟩:=h.slice
 have hl:=h.lt
 have cr:∀w1,Below W.heap.size W w1->Calls prog 50 #[.pointer (some ⟨cb,0,none⟩),fv (bad Ys)] w1 λe w'=>Err W cb (bad Ys) e w':=λw1 hB=>(Pn (h.below hB) (bad Ys)).mono λe w' he=>he.from hB
 have c0:W.cell? ⟨cb,0,none⟩=some (.slice o (good Ys).length c):=AO h.top 0
 have c1:W.cell? ⟨cb,1,none⟩=some (.int .i64 (bad Ys).1):=AO h.top 1
 have c2:W.cell? ⟨cb,2,none⟩=some (.int .i64 (bad Ys).2):=AO h.top 2
 have c3:W.cell? ⟨cb,3,none⟩=some (.int .i64 (i:Nat)):=AO h.top 3
 have n1:¬cb=W.heap.size:=by omega
 have n2:¬W.heap.size=cb:=by omega
 have k1:((i:Int)==((good Ys).length:Int))=true:=by simp[hi]
 unfold fv at cr
 clear h hi
 generalize (good Ys).length=n at *
 generalize bad Ys=f at *
 go_enter func32,ntmps32
 go_upto_region 1 with fail
 go_region
 go_wp2_with (go_at_call 50;(with_reducible refine(cr _ ((((z1z _ W).alloc (z0z _) _)).drew)).mono ?_);rintro e w4 ⟨he,ht,hu⟩;clear cr;(unfold Aq fv at he);subst he)
 exact⟨rfl,rfl,ht,hu⟩
theorem Cu.tok(h:Cu W cb Ys s i v t)(hi:i<(good Ys).length):∃g c,v=.slice (some ⟨g,0,none⟩) (good Ys).length c/\(good Ys).length<=c/\g<W.heap.size/\g≠cb/\∀j,j<5->W.cell? ⟨g,i*5+j,none⟩=(Cn (good Ys)[i])[j]?:=by
 rcases h.row.2 with⟨_,e0⟩|⟨g,c,cur,rfl,h2,h3,h4,h5,h6,h7⟩
 ·omega
 ·refine⟨g,c,rfl,h4,(z2z.1 h3).1,h.own g rfl,λj hj=>?_⟩
  rw[cell_of_row _ g _ _ _ _ h3,<- Yk _ i j hi hj,<- h7,List.getElem?_take,if_pos (by omega),Array.getElem?_toList]
theorem ZO(h:Cu W cb Ys s i v t)(hi:i<(good Ys).length)(Q:Ending->World->Prop)(hq1:¬ (Gm (good Ys)[i].t=true/\s.o=64)->∀w',Below W.heap.size W w'->Q (.returned (tv (good Ys)[i].t (good Ys)[i].a)) w')(hq2:(Gm (good Ys)[i].t=true/\s.o=64)->∀e w',Err W cb (71,(good Ys)[i].a) e w'->Q e w'):Calls prog 32 #[.pointer (some ⟨cb,0,none⟩)] W Q:=by
 obtain⟨g,c,rfl,hgc,hg,hgb,hc⟩:=h.tok hi
 have hl:=h.lt
 have cr:∀w1,Below W.heap.size W w1->Calls prog 50 #[.pointer (some ⟨cb,0,none⟩),fv (71,(good Ys)[i].a)] w1 λe w'=>Err W cb (71,(good Ys)[i].a) e w':=λw1 hB=>(Pn (h.below hB) _).mono λe w' he=>he.from hB
 have co:=Yh (good Ys)[i].t (good Ys)[i].a
 have c0:W.cell? ⟨cb,0,none⟩=some (.slice (some ⟨g,0,none⟩) (good Ys).length c):=AO h.top 0
 have c3:W.cell? ⟨cb,3,none⟩=some (.int .i64 (i:Nat)):=AO h.top 3
 have c4:W.cell? ⟨cb,4,none⟩=some (.int .i64 s.o):=AO h.top 4
 have d0:W.cell? ⟨g,i*5,none⟩=some (.int .i64 (good Ys)[i].t.kind):=hc 0 (by omega)
 have d1:W.cell? ⟨g,i*5+1,none⟩=some (.int .i64 (good Ys)[i].a):=hc 1 (by omega)
 have d2:W.cell? ⟨g,i*5+2,none⟩=some (.string (good Ys)[i].t.text):=hc 2 (by omega)
 have d3:W.cell? ⟨g,i*5+3,none⟩=some (.int .i64 (good Ys)[i].t.int):=hc 3 (by omega)
 have d4:W.cell? ⟨g,i*5+4,none⟩=some (.int .u64 (good Ys)[i].t.bits):=hc 4 (by omega)
 have n1:¬cb=W.heap.size:=by omega
 have n2:¬W.heap.size=cb:=by omega
 have n3:¬g=W.heap.size:=by omega
 have n4:¬W.heap.size=g:=by omega
 have k0:(0:Int)<=i:=Int.natCast_nonneg _
 have k1:((i:Int)==((good Ys).length:Int))=false:=by simp;omega
 have k2:(i:Int)<(good Ys).length:=by omega
 unfold fv at cr
 clear h hc
 generalize (good Ys)[i]=y at *
 clear hi
 generalize (good Ys).length=n at *
 obtain⟨⟨yk,yt,yi,yb⟩,ya,yc,yf⟩:=y
 generalize s.o=o at *
 unfold tv at *
 dsimp only at *
 have HQ1:=hid hq1
 have HQ2:=hid hq2
 clear hq1 hq2
 go_enter func32,ntmps32
 go_upto_region 1 with fail
 go_region
 go_upto_region 3 with fail
 go_region
 have hB2:Below W.heap.size W ((W.alloc (.cells #[.int .i64 0,.int .i64 0,.string ⟨#[]⟩,.int .i64 0,.int .u64 0] 71)).alloc (.cells #[.int .i64 yk,.int .i64 ya,.string yt,.int .i64 yi,.int .u64 yb] 71)).drew.drew:=((((z1z _ W).alloc (z0z _) _).alloc (by simp) _).drew).drew
 have q0:((W.alloc (.cells #[.int .i64 0,.int .i64 0,.string ⟨#[]⟩,.int .i64 0,.int .u64 0] 71)).alloc (.cells #[.int .i64 yk,.int .i64 ya,.string yt,.int .i64 yi,.int .u64 yb] 71)).drew.drew.heap[W.heap.size]? = some (.cells #[.int .i64 0,.int .i64 0,.string ⟨#[]⟩,.int .i64 0,.int .u64 0] 71 (0,0)):=(Below.heap_alloc _ _ _ (by simp)).trans (z4z W _)
 have q1:((W.alloc (.cells #[.int .i64 0,.int .i64 0,.string ⟨#[]⟩,.int .i64 0,.int .u64 0] 71)).alloc (.cells #[.int .i64 yk,.int .i64 ya,.string yt,.int .i64 yi,.int .u64 yb] 71)).drew.drew.heap[W.heap.size+1]? = some (.cells #[.int .i64 yk,.int .i64 ya,.string yt,.int .i64 yi,.int .u64 yb] 71 (0,0)):=by
  have:=z4z (W.alloc (.cells #[.int .i64 0,.int .i64 0,.string ⟨#[]⟩,.int .i64 0,.int .u64 0] 71)) (.cells #[.int .i64 yk,.int .i64 ya,.string yt,.int .i64 yi,.int .u64 yb] 71)
  rwa [World.size_alloc] at this
 generalize ((W.alloc (.cells #[.int .i64 0,.int .i64 0,.string ⟨#[]⟩,.int .i64 0,.int .u64 0] 71)).alloc (.cells #[.int .i64 yk,.int .i64 ya,.string yt,.int .i64 yi,.int .u64 yb] 71)).drew.drew=W2 at *
 have e4:W2.cell? ⟨cb,4,none⟩=some (.int .i64 o):=(hB2.cell (p:=⟨cb,4,none⟩) hl).trans c4
 have f0:=AO q1
 have f00:W2.cell? ⟨W.heap.size+1,0,none⟩=some (.int .i64 yk):=f0 0
 have f01:W2.cell? ⟨W.heap.size+1,1,none⟩=some (.int .i64 ya):=f0 1
 have f02:W2.cell? ⟨W.heap.size+1,2,none⟩=some (.string yt):=f0 2
 have f03:W2.cell? ⟨W.heap.size+1,3,none⟩=some (.int .i64 yi):=f0 3
 have f04:W2.cell? ⟨W.heap.size+1,4,none⟩=some (.int .u64 yb):=f0 4
 have z2:=hB2.size
 have lt1:=(z2z.1 q1).1
 have HQ:=hid (And.intro hB2 (And.intro q0 q1))
 clear f0 c0 c3 c4 d0 d1 d2 d3 d4 k0 k1 k2 hB2 q0 q1 z2 hgc hg hgb n3 n4
 cases ho:Gm ⟨yk,yt,yi,yb⟩
 all_goals rw[ho] at co
 ·clear cr
  go_upto_region 6 with(go_at_call 51;(with_reducible refine(co _).mono ?_);rintro e w3 ⟨rfl,b3⟩;clear co)
  obtain⟨hB2,q0,q1⟩:=HQ.out
  have r0:=(b3.block _ (by omega)).trans q0
  have r1:=(b3.block _ (by omega)).trans q1
  have f0:=AO r1
  have f00:w3.cell? ⟨W.heap.size+1,0,none⟩=some (.int .i64 yk):=f0 0
  have f01:w3.cell? ⟨W.heap.size+1,1,none⟩=some (.int .i64 ya):=f0 1
  have f02:w3.cell? ⟨W.heap.size+1,2,none⟩=some (.string yt):=f0 2
  have f03:w3.cell? ⟨W.heap.size+1,3,none⟩=some (.int .i64 yi):=f0 3
  have f04:w3.cell? ⟨W.heap.size+1,4,none⟩=some (.int .u64 yb):=f0 4
  have ec:=AO r0
  have ef:=Bj r0
  have HR:=hid (And.intro r0 (hB2.trans (b3.mono hB2.size)))
  clear f0 r0 r1 hB2 q0 q1 b3
  go_wp2
  refine bodyPost_ret (Kc rfl _ _ W.heap.size _ _ _ _ _ (0,0) rfl (M8 HR.out.1 _ _ _ _ _)) rfl ?_
  exact HQ1.out (by simp[ho]) _ (VI HR.out.2 (z0z _) _ _ _ _ _)
 ·by_cases h64:o=64
  ·have k64:(o==64)=true:=by simp[h64]
   go_wp2_with (first|(go_at_call 51;(with_reducible refine(co _).mono ?_);rintro e w3 ⟨rfl,b3⟩;clear co;(have hB3:=HQ.out.1.trans (b3.mono HQ.out.1.size));(have e4':w3.cell? ⟨cb,4,none⟩=some (.int .i64 o):=(b3.cell (p:=⟨cb,4,none⟩) (by show cb<W2.heap.size;omega)).trans e4);(have g01:w3.cell? ⟨W.heap.size+1,1,none⟩=some (.int .i64 ya):=(b3.cell (p:=⟨W.heap.size+1,1,none⟩) lt1).trans f01);(have HB3:=hid hB3);clear hB3 b3)|(go_at_call 50;(with_reducible refine(cr _ HB3.out).mono ?_);rintro e w4 ⟨he,ht,hu⟩;clear cr;(unfold Aq fv at he);subst he))
   exact⟨rfl,HQ2.out ⟨ho,h64⟩ _ _ ⟨rfl,ht,hu⟩⟩
  ·have k64:(o==64)=false:=by simp[h64]
   clear cr
   go_upto_region 6 with(go_at_call 51;(with_reducible refine(co _).mono ?_);rintro e w3 ⟨rfl,b3⟩;clear co;(have e4':w3.cell? ⟨cb,4,none⟩=some (.int .i64 o):=(b3.cell (p:=⟨cb,4,none⟩) (by show cb<W2.heap.size;omega)).trans e4))
   obtain⟨hB2,q0,q1⟩:=HQ.out
   have r0:=(b3.block _ (by omega)).trans q0
   have r1:=(b3.block _ (by omega)).trans q1
   have f0:=AO r1
   have f00:w3.cell? ⟨W.heap.size+1,0,none⟩=some (.int .i64 yk):=f0 0
   have f01:w3.cell? ⟨W.heap.size+1,1,none⟩=some (.int .i64 ya):=f0 1
   have f02:w3.cell? ⟨W.heap.size+1,2,none⟩=some (.string yt):=f0 2
   have f03:w3.cell? ⟨W.heap.size+1,3,none⟩=some (.int .i64 yi):=f0 3
   have f04:w3.cell? ⟨W.heap.size+1,4,none⟩=some (.int .u64 yb):=f0 4
   have ec:=AO r0
   have ef:=Bj r0
   have HR:=hid (And.intro r0 (hB2.trans (b3.mono hB2.size)))
   clear f0 r0 r1 hB2 q0 q1 b3
   go_wp2
   refine bodyPost_ret (Kc rfl _ _ W.heap.size _ _ _ _ _ (0,0) rfl (M8 HR.out.1 _ _ _ _ _)) rfl ?_
   exact HQ1.out (by simp[h64]) _ (VI HR.out.2 (z0z _) _ _ _ _ _)
theorem look_ok(h:KV W cb Ys s)(hy:look s=.ok y):Calls prog 32 #[.pointer (some ⟨cb,0,none⟩)] W λe w'=>e=.returned (tv y.t y.a)/\Below W.heap.size W w':=by
 obtain⟨i,v,t,h⟩:=h
 by_cases hi:i<(good Ys).length
 ·have h1:=(h.in hi).1
  rw[h1] at hy
  split at hy
  ·cases hy
  ·rename_i hn
   cases hy
   exact ZO h hi _ (λ_ w' hB=>⟨rfl,hB⟩) (λc=>absurd c hn)
 ·have hle:=h.le
  rw[h.end (by omega)] at hy
  cases hy
theorem aT(h:KV W cb Ys s)(hy:look s=.error f):Calls prog 32 #[.pointer (some ⟨cb,0,none⟩)] W λe w'=>Err W cb f e w':=by
 obtain⟨i,v,t,h⟩:=h
 by_cases hi:i<(good Ys).length
 ·have h1:=(h.in hi).1
  rw[h1] at hy
  split at hy
  ·rename_i hn
   cases hy
   exact ZO h hi _ (λc=>absurd hn c) (λ_ e w' he=>he)
  ·cases hy
 ·have hle:=h.le
  have hi':i=(good Ys).length:=by omega
  rw[h.end hi'] at hy
  cases hy
  exact iW h hi'
end
end Go.Proofs.YtjplieobnknnpaaGreatDoor.W.Tr
