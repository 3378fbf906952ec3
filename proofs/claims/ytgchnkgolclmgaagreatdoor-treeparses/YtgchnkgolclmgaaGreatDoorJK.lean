import Derived.Test.YtgchnkgolclmgaaGreatDoorJJ
import Derived.Test.YtgchnkgolclmgaaGreatDoorJH
import Derived.Test.YtgchnkgolclmgaaGreatDoorShelfT
import Derived.WalkLawsBesides
import Derived.Test.YtgchnkgolclmgaaGreatDoorJI
import Derived.Test.YtgchnkgolclmgaaGreatDoorJG
open List renaming takeWhile_prefix → ay
open Array renaming getElem?_eq_some_iff → aY
open Nat renaming le_refl → aH
open Go.World renaming alloc_heap_new → bO
open Go.RowKit.Below renaming refl → aL
open Go.Proofs.Tryz
set_option maxRecDepth 1000000
set_option maxHeartbeats 8000000
namespace Go.Proofs.YtgchnkgolclmgaaGreatDoor.W.Tr
open Go.ChangeShapes Go.WideShapes Go.RowKit Go.Shelf
set_option linter.unusedVariables false
set_option linter.unusedSimpArgs false
theorem kE(x:ByteArray)(l:List UInt8):decide (x=(⟨l.toArray⟩:ByteArray))=(x.toList==l):=by
 rw[ByteArray.toList_eq]
 cases h:(x.data.toList==l) with
 | true=>
  have e:x.data.toList=l:=eq_of_beq h
  have e2:x=⟨l.toArray⟩:=by rw[<- e]
  exact decide_eq_true e2
 | false=>
  refine decide_eq_false λe=>?_
  rw[e] at h
  simp at h
theorem kI(t:Tk)(a:Int)(W:World):Calls prog 49 #[tv t a] W λe w'=>e=.returned (.string (aG t))/\Below W.heap.size W w':=by
 unfold tv
 by_cases h2:t.kind=2
 ·have hx:aG t=t.text:=by simp[aG,h2]
  rw[hx]
  have b2:(t.kind==2)=true:=by simp[h2]
  clear h2 hx
  go_enter func49,ntmps49
  go_wp2
  go_ret
  exact⟨rfl,(aL _ _).alloc (aH _) _⟩
 ·have b2:(t.kind==2)=false:=by simp[h2]
  by_cases h3:t.kind=3
  ·have hx:aG t=t.text:=by simp[aG,h3]
   rw[hx]
   have b3:(t.kind==3)=true:=by simp[h3]
   clear h2 h3 hx
   go_enter func49,ntmps49
   go_wp2
   go_ret
   exact⟨rfl,(aL _ _).alloc (aH _) _⟩
  ·have hx:aG t=⟨#[]⟩:=by simp[aG,h2,h3]
   rw[hx]
   have b3:(t.kind==3)=false:=by simp[h3]
   clear h2 h3 hx
   go_enter func49,ntmps49
   go_wp2
   go_ret
   exact⟨rfl,(aL _ _).alloc (aH _) _⟩
theorem GU(t:Tk)(a:Int)(W:World):Calls prog 47 #[tv t a] W λe w'=>e=.returned (.bool (dx t))/\Below W.heap.size W w':=by
 have cf:=kI t a
 have ho:dx t=(((aG t).toList==[40]||(aG t).toList==[91])||(aG t).toList==[123]):=by rw[<- kE,<- kE,<- kE];rfl
 rw[ho]
 clear ho
 unfold tv at *
 generalize aG t=x at *
 go_enter func47,ntmps47
 go_upto_region 2 with(go_at_call 49;(with_reducible refine(cf _).mono ?_);rintro e w2 ⟨rfl,b2⟩;clear cf)
 have hB:Below W.heap.size W w2:=((aL _ W).alloc (aH _) _).trans (b2.mono (by simp))
 have HB:=hid hB
 clear hB b2
 cases h1:(x.toList==[40])
 ·cases h2:(x.toList==[91])
  ·cases h3:(x.toList==[123]) <;> (go_wp2;go_ret;exact⟨by first|(rw[h1,h2,h3];rfl)|(rw[h1,h2];rfl)|(rw[h1];rfl),HB.out⟩)
  ·go_wp2
   go_ret
   exact⟨by first|(rw[h1,h2,h3];rfl)|(rw[h1,h2];rfl)|(rw[h1];rfl),HB.out⟩
 ·go_wp2
  go_ret
  exact⟨by first|(rw[h1,h2,h3];rfl)|(rw[h1,h2];rfl)|(rw[h1];rfl),HB.out⟩
theorem Mv(t:Tk)(a:Int)(W:World):Calls prog 112 #[tv t a] W λe w'=>e=.returned (.bool (eP t))/\Below W.heap.size W w':=by
 have cf:=kI t a
 have ho:eP t=(((aG t).toList==[41]||(aG t).toList==[93])||(aG t).toList==[125]):=by rw[<- kE,<- kE,<- kE];rfl
 rw[ho]
 clear ho
 unfold tv at *
 generalize aG t=x at *
 go_enter func112,ntmps112
 go_upto_region 2 with(go_at_call 49;(with_reducible refine(cf _).mono ?_);rintro e w2 ⟨rfl,b2⟩;clear cf)
 have hB:Below W.heap.size W w2:=((aL _ W).alloc (aH _) _).trans (b2.mono (by simp))
 have HB:=hid hB
 clear hB b2
 cases h1:(x.toList==[41])
 ·cases h2:(x.toList==[93])
  ·cases h3:(x.toList==[125]) <;> (go_wp2;go_ret;exact⟨by first|(rw[h1,h2,h3];rfl)|(rw[h1,h2];rfl)|(rw[h1];rfl),HB.out⟩)
  ·go_wp2
   go_ret
   exact⟨by first|(rw[h1,h2,h3];rfl)|(rw[h1,h2];rfl)|(rw[h1];rfl),HB.out⟩
 ·go_wp2
  go_ret
  exact⟨by first|(rw[h1,h2,h3];rfl)|(rw[h1,h2];rfl)|(rw[h1];rfl),HB.out⟩
theorem xG(x:ByteArray)(W:World):Calls prog 124 #[.string x] W λe w'=>e=.returned (.bool (comp x))/\w'=W:=by
 unfold comp
 rw[kE,kE,kE,kE,kE,kE]
 cases h0:(x.toList==[61,61])
 rotate_left
 ·go_enter func124,ntmps124
  go_wp2
  go_ret
  exact⟨rfl,rfl⟩
 cases h1:(x.toList==[33,61])
 rotate_left
 ·go_enter func124,ntmps124
  go_wp2
  go_ret
  exact⟨rfl,rfl⟩
 cases h2:(x.toList==[60])
 rotate_left
 ·go_enter func124,ntmps124
  go_wp2
  go_ret
  exact⟨rfl,rfl⟩
 cases h3:(x.toList==[60,61])
 rotate_left
 ·go_enter func124,ntmps124
  go_wp2
  go_ret
  exact⟨rfl,rfl⟩
 cases h4:(x.toList==[62])
 rotate_left
 ·go_enter func124,ntmps124
  go_wp2
  go_ret
  exact⟨rfl,rfl⟩
 cases h5:(x.toList==[62,61])
 rotate_left
 ·go_enter func124,ntmps124
  go_wp2
  go_ret
  exact⟨rfl,rfl⟩
 go_enter func124,ntmps124
 go_wp2
 go_ret
 exact⟨rfl,rfl⟩
theorem Fe(x:ByteArray)(W:World):Calls prog 125 #[.string x] W λe w'=>e=.returned (.int .i64 (tight x:Nat))/\w'=W:=by
 by_cases g0:x=⟨#[124]⟩
 ·have hx:tight x=1:=by rw[g0];decide
  rw[hx]
  have h0:(x.toList==[124])=true:=by rw[<- kE];simp[g0]
  clear hx g0
  go_enter func125,ntmps125
  go_wp2
  go_ret
  exact⟨rfl,rfl⟩
 have h0:(x.toList==[124])=false:=by rw[<- kE];simp[g0]
 by_cases g1:x=⟨#[94]⟩
 ·have hx:tight x=2:=by rw[g1];decide
  rw[hx]
  have h1:(x.toList==[94])=true:=by rw[<- kE];simp[g1]
  clear hx g1
  go_enter func125,ntmps125
  go_wp2
  go_ret
  exact⟨rfl,rfl⟩
 have h1:(x.toList==[94])=false:=by rw[<- kE];simp[g1]
 by_cases g2:x=⟨#[38]⟩
 ·have hx:tight x=3:=by rw[g2];decide
  rw[hx]
  have h2:(x.toList==[38])=true:=by rw[<- kE];simp[g2]
  clear hx g2
  go_enter func125,ntmps125
  go_wp2
  go_ret
  exact⟨rfl,rfl⟩
 have h2:(x.toList==[38])=false:=by rw[<- kE];simp[g2]
 by_cases g3:x=⟨#[60,60]⟩
 ·have hx:tight x=4:=by rw[g3];decide
  rw[hx]
  have h3:(x.toList==[60,60])=true:=by rw[<- kE];simp[g3]
  clear hx g3
  go_enter func125,ntmps125
  go_wp2
  go_ret
  exact⟨rfl,rfl⟩
 have h3:(x.toList==[60,60])=false:=by rw[<- kE];simp[g3]
 by_cases g4:x=⟨#[62,62]⟩
 ·have hx:tight x=4:=by rw[g4];decide
  rw[hx]
  have h4:(x.toList==[62,62])=true:=by rw[<- kE];simp[g4]
  clear hx g4
  go_enter func125,ntmps125
  go_wp2
  go_ret
  exact⟨rfl,rfl⟩
 have h4:(x.toList==[62,62])=false:=by rw[<- kE];simp[g4]
 by_cases g5:x=⟨#[43]⟩
 ·have hx:tight x=5:=by rw[g5];decide
  rw[hx]
  have h5:(x.toList==[43])=true:=by rw[<- kE];simp[g5]
  clear hx g5
  go_enter func125,ntmps125
  go_wp2
  go_ret
  exact⟨rfl,rfl⟩
 have h5:(x.toList==[43])=false:=by rw[<- kE];simp[g5]
 by_cases g6:x=⟨#[45]⟩
 ·have hx:tight x=5:=by rw[g6];decide
  rw[hx]
  have h6:(x.toList==[45])=true:=by rw[<- kE];simp[g6]
  clear hx g6
  go_enter func125,ntmps125
  go_wp2
  go_ret
  exact⟨rfl,rfl⟩
 have h6:(x.toList==[45])=false:=by rw[<- kE];simp[g6]
 by_cases g7:x=⟨#[42]⟩
 ·have hx:tight x=6:=by rw[g7];decide
  rw[hx]
  have h7:(x.toList==[42])=true:=by rw[<- kE];simp[g7]
  clear hx g7
  go_enter func125,ntmps125
  go_wp2
  go_ret
  exact⟨rfl,rfl⟩
 have h7:(x.toList==[42])=false:=by rw[<- kE];simp[g7]
 by_cases g8:x=⟨#[47]⟩
 ·have hx:tight x=6:=by rw[g8];decide
  rw[hx]
  have h8:(x.toList==[47])=true:=by rw[<- kE];simp[g8]
  clear hx g8
  go_enter func125,ntmps125
  go_wp2
  go_ret
  exact⟨rfl,rfl⟩
 have h8:(x.toList==[47])=false:=by rw[<- kE];simp[g8]
 by_cases g9:x=⟨#[47,47]⟩
 ·have hx:tight x=6:=by rw[g9];decide
  rw[hx]
  have h9:(x.toList==[47,47])=true:=by rw[<- kE];simp[g9]
  clear hx g9
  go_enter func125,ntmps125
  go_wp2
  go_ret
  exact⟨rfl,rfl⟩
 have h9:(x.toList==[47,47])=false:=by rw[<- kE];simp[g9]
 by_cases g10:x=⟨#[37]⟩
 ·have hx:tight x=6:=by rw[g10];decide
  rw[hx]
  have h10:(x.toList==[37])=true:=by rw[<- kE];simp[g10]
  clear hx g10
  go_enter func125,ntmps125
  go_wp2
  go_ret
  exact⟨rfl,rfl⟩
 have h10:(x.toList==[37])=false:=by rw[<- kE];simp[g10]
 have hx:tight x=0:=by simp[tight,g0,g1,g2,g3,g4,g5,g6,g7,g8,g9,g10]
 rw[hx]
 clear hx g0 g1 g2 g3 g4 g5 g6 g7 g8 g9 g10
 go_enter func125,ntmps125
 go_wp2
 go_ret
 exact⟨rfl,rfl⟩
def good(Ys:List Yd):List Yd:=Ys.takeWhile (λy=>decide (y.c=0))
def bad(Ys:List Yd):jv:=match Ys.drop (good Ys).length with
 | []=>(0,0)
 | y::_=>(y.c,y.f)
def fv(f:jv):Value:=.agg #[.int .i64 f.1,.int .i64 f.2]
def kC(f:jv):Ending:=.panicked [{ v:=.iface 25 (fv f),recovered:=false }]
structure Cu (W:World) (cb:Nat) (Ys:List Yd) (s:Cs) (i:Nat) (v:Value) (t:jv):Prop where
 top:W.heap[cb]? = some (.cells #[v,.int .i64 (bad Ys).1,.int .i64 (bad Ys).2,.int .i64 (i:Nat),.int .i64 s.o,.int .i64 t.1,.int .i64 t.2] 53 (0,0))
 row:W.ownsRow 0 36 5 v (good Ys).length (mY (good Ys))
 own:∀k,v.ownBlock=some k->k≠cb
 at':s.r=Ys.drop i
 le:i<=(good Ys).length
 lo:-(i:Int)<=s.o
 hi:s.o<=i
 all:Ys.length<=1000002
def Qx(W:World)(cb:Nat)(Ys:List Yd)(s:Cs):Prop:=∃i v t,Cu W cb Ys s i v t
def Cv(W:World)(cb:Nat)(Ys:List Yd)(v:Value)(s:Cs):Prop:=∃i t,Cu W cb Ys s i v t
theorem Cv.cur{W:World}{cb:Nat}{Ys:List Yd}{v:Value}{s:Cs}(h:Cv W cb Ys v s):Qx W cb Ys s:=by
 obtain⟨i,t,h⟩:=h
 exact⟨i,v,t,h⟩
def Told(W:World)(cb:Nat)(f:jv):Prop:=∃a b c d e,W.heap[cb]? = some (.cells #[a,b,c,d,e,.int .i64 f.1,.int .i64 f.2] 53 (0,0))
def Err(W:World)(cb:Nat)(f:jv)(e:Ending)(w':World):Prop:=e=kC f/\Told w' cb f/\It.bL (λk=>k=cb) W w'
section
variable {W w':World} {cb i:Nat} {Ys:List Yd} {s:Cs} {v:Value} {t f:jv} {y:Yd} {e:Ending}
theorem Ga(Ys:List Yd):(good Ys).length<=Ys.length:=(ay _).length_le
theorem Cu.len(h:Cu W cb Ys s i v t):(good Ys).length<=1000002:=Nat.le_trans (Ga Ys) h.all
theorem Cu.lt(h:Cu W cb Ys s i v t):cb<W.heap.size:=(aY.1 h.top).1
theorem Cu.below(h:Cu W cb Ys s i v t)(hB:Below W.heap.size W w'):Cu w' cb Ys s i v t:=
 ⟨(hB.block cb h.lt).trans h.top,bD h.row (λk e=>hB.block k (h.row.lt k e).2),h.own,h.at',h.le,h.lo,h.hi,h.all⟩
theorem Qx.below(h:Qx W cb Ys s)(hB:Below W.heap.size W w'):Qx w' cb Ys s:=by
 obtain⟨i,v,t,h⟩:=h
 exact⟨i,v,t,h.below hB⟩
theorem Err.from{W0:World}(h:Err W cb f e w')(hB:Below W0.heap.size W0 W):Err W0 cb f e w':=⟨h.1,h.2.1,(It.bL.of_below hB).trans' h.2.2⟩
theorem oM(Ys:List Yd):∀y l,Ys.drop (good Ys).length=y::l->¬y.c=0:=by
 induction Ys with
 | nil=>intro y l h;cases h
 | cons z Ys ih=>
  intro y l h
  unfold good at h ih
  by_cases hz:z.c=0
  ·rw[List.takeWhile_cons_of_pos (by simp[hz])] at h
   exact ih y l (by simpa using h)
  ·rw[List.takeWhile_cons_of_neg (by simp[hz])] at h
   simp at h
   rw[<- h.1]
   exact hz
theorem Cu.end(h:Cu W cb Ys s i v t)(hi:i=(good Ys).length):look s=.error (bad Ys):=by
 unfold look bad
 rw[h.at',hi]
 cases hd:Ys.drop (good Ys).length with
 | nil=>rfl
 | cons y l=>simp[oM Ys y l hd]
theorem DJ(Ys:List Yd)(i:Nat)(hi:i<(good Ys).length):∃l,Ys.drop i=(good Ys)[i]::l/\((good Ys)[i]).c=0:=by
 have hp:good Ys <+: Ys:=ay _
 have hlt:i<Ys.length:=Nat.lt_of_lt_of_le hi hp.length_le
 refine⟨Ys.drop (i+1),?_,?_⟩
 ·rw[List.drop_eq_getElem_cons hlt,hp.getElem hi]
 ·have:=List.all_takeWhile (p:=λy:Yd=>decide (y.c=0)) (l:=Ys)
  have h2:=List.all_eq_true.1 this _ (List.getElem_mem hi)
  simpa using h2
theorem Cu.in(h:Cu W cb Ys s i v t)(hi:i<(good Ys).length):look s=(if dx (good Ys)[i].t=true/\s.o=64 then .error (71,(good Ys)[i].a) else .ok (good Ys)[i])/\∃l,s.r=(good Ys)[i]::l:=by
 obtain⟨l,h1,h2⟩:=DJ Ys i hi
 refine⟨?_,l,by rw[h.at',h1]⟩
 unfold look
 rw[h.at',h1]
 simp[h2]
theorem rP(h:Cu W cb Ys s i v t)(f:jv):Calls prog 46 #[.pointer (some ⟨cb,0,none⟩),fv f] W λe w'=>Err W cb f e w':=by
 have c5:W.cell? ⟨cb,5,none⟩=some (.int .i64 t.1):=aA h.top 5
 have c6:W.cell? ⟨cb,6,none⟩=some (.int .i64 t.2):=aA h.top 6
 have z5:=aC h.top 5
 have z6:=aC h.top 6
 have hl:=h.lt
 have n1:¬cb=W.heap.size:=by omega
 have n2:¬W.heap.size=cb:=by omega
 have HH:=hid h
 unfold fv
 clear h
 go_enter func46,ntmps46
 go_wp2
 have h:=HH.out
 refine⟨rfl,rfl,?_,?_⟩
 ·have b1:=aM (c:=[v,.int .i64 (bad Ys).1,.int .i64 (bad Ys).2,.int .i64 (i:Nat),.int .i64 s.o,.int .i64 t.1,.int .i64 t.2]) h.top 5 (.int .i64 f.1)
  have b2:=aM (c:=[v,.int .i64 (bad Ys).1,.int .i64 (bad Ys).2,.int .i64 (i:Nat),.int .i64 s.o,.int .i64 f.1,.int .i64 t.2]) b1 6 (.int .i64 f.2)
  exact⟨_,_,_,_,_,(Below.heap_alloc _ _ _ (by simp only[World.size_setCell];exact h.lt)).trans b2⟩
 ·exact((((It.bL.refl (λk=>k=cb) W).setCell (p:=⟨cb,5,none⟩) (.inl rfl) _).setCell (p:=⟨cb,6,none⟩) (.inl rfl) _)).trans' (It.bL.of_below ((aL _ _).alloc (aH _) _))
end
theorem Bu(L:List Yd)(k j:Nat)(hk:k<L.length)(hj:j<5):(mY L)[k*5+j]? = (dA L[k])[j]?:=by
 induction L generalizing k with
 | nil=>simp at hk
 | cons y L ih=>
  unfold mY at ih ⊢
  rw[List.flatMap_cons]
  cases k with
  | zero=>
   rw[List.getElem?_append_left (by simp[dA];omega)]
   simp
  | succ k=>
   have h5:(dA y).toList.length=5:=rfl
   rw[List.getElem?_append_right (by rw[h5];omega),h5]
   have:=ih k (by simpa using hk)
   have e:(k+1)*5+j-5=k*5+j:=by omega
   rw[e,this]
   rfl
section
variable {W w':World} {cb i:Nat} {Ys:List Yd} {s:Cs} {v:Value} {t f:jv} {y:Yd} {e:Ending}
theorem Cu.slice(h:Cu W cb Ys s i v t):∃o c,v=.slice o (good Ys).length c:=aI h.row
theorem Lv(h:Cu W cb Ys s i v t)(hi:i=(good Ys).length):Calls prog 29 #[.pointer (some ⟨cb,0,none⟩)] W λe w'=>Err W cb (bad Ys) e w':=by
 obtain⟨o,c,rfl⟩:=h.slice
 have hl:=h.lt
 have cr:∀w1,Below W.heap.size W w1->Calls prog 46 #[.pointer (some ⟨cb,0,none⟩),fv (bad Ys)] w1 λe w'=>Err W cb (bad Ys) e w':=λw1 hB=>(rP (h.below hB) (bad Ys)).mono λe w' he=>he.from hB
 have c0:W.cell? ⟨cb,0,none⟩=some (.slice o (good Ys).length c):=aA h.top 0
 have c1:W.cell? ⟨cb,1,none⟩=some (.int .i64 (bad Ys).1):=aA h.top 1
 have c2:W.cell? ⟨cb,2,none⟩=some (.int .i64 (bad Ys).2):=aA h.top 2
 have c3:W.cell? ⟨cb,3,none⟩=some (.int .i64 (i:Nat)):=aA h.top 3
 have n1:¬cb=W.heap.size:=by omega
 have n2:¬W.heap.size=cb:=by omega
 have k1:((i:Int)==((good Ys).length:Int))=true:=by simp[hi]
 unfold fv at cr
 clear h hi
 generalize (good Ys).length=n at *
 generalize bad Ys=f at *
 go_enter func29,ntmps29
 go_upto_region 1 with fail
 go_region
 go_wp2_with (go_at_call 46;(with_reducible refine(cr _ ((((aL _ W).alloc (aH _) _)).drew)).mono ?_);rintro e w4 ⟨he,ht,hu⟩;clear cr;(unfold kC fv at he);subst he)
 exact⟨rfl,rfl,ht,hu⟩
theorem Cu.tok(h:Cu W cb Ys s i v t)(hi:i<(good Ys).length):∃g c,v=.slice (some ⟨g,0,none⟩) (good Ys).length c/\(good Ys).length<=c/\g<W.heap.size/\g≠cb/\∀j,j<5->W.cell? ⟨g,i*5+j,none⟩=(dA (good Ys)[i])[j]?:=by
 rcases h.row.2 with⟨_,e0⟩|⟨g,c,cur,rfl,h2,h3,h4,h5,h6,h7⟩
 ·omega
 ·refine⟨g,c,rfl,h4,(aY.1 h3).1,h.own g rfl,λj hj=>?_⟩
  rw[cell_of_row _ g _ _ _ _ h3,<- Bu _ i j hi hj,<- h7,List.getElem?_take,if_pos (by omega),Array.getElem?_toList]
theorem G8(h:Cu W cb Ys s i v t)(hi:i<(good Ys).length)(Q:Ending->World->Prop)(hq1:¬ (dx (good Ys)[i].t=true/\s.o=64)->∀w',Below W.heap.size W w'->Q (.returned (tv (good Ys)[i].t (good Ys)[i].a)) w')(hq2:(dx (good Ys)[i].t=true/\s.o=64)->∀e w',Err W cb (71,(good Ys)[i].a) e w'->Q e w'):Calls prog 29 #[.pointer (some ⟨cb,0,none⟩)] W Q:=by
 obtain⟨g,c,rfl,hgc,hg,hgb,hc⟩:=h.tok hi
 have hl:=h.lt
 have cr:∀w1,Below W.heap.size W w1->Calls prog 46 #[.pointer (some ⟨cb,0,none⟩),fv (71,(good Ys)[i].a)] w1 λe w'=>Err W cb (71,(good Ys)[i].a) e w':=λw1 hB=>(rP (h.below hB) _).mono λe w' he=>he.from hB
 have co:=GU (good Ys)[i].t (good Ys)[i].a
 have c0:W.cell? ⟨cb,0,none⟩=some (.slice (some ⟨g,0,none⟩) (good Ys).length c):=aA h.top 0
 have c3:W.cell? ⟨cb,3,none⟩=some (.int .i64 (i:Nat)):=aA h.top 3
 have c4:W.cell? ⟨cb,4,none⟩=some (.int .i64 s.o):=aA h.top 4
 have d0:W.cell? ⟨g,i*5,none⟩=some (.int .i64 (good Ys)[i].t.kind):=hc 0 (by omega)
 have d1:W.cell? ⟨g,i*5+1,none⟩=some (.int .i64 (good Ys)[i].a):=hc 1 (by omega)
 have d2:W.cell? ⟨g,i*5+2,none⟩=some (.string (good Ys)[i].t.text):=hc 2 (by omega)
 have d3:W.cell? ⟨g,i*5+3,none⟩=some (.int .i64 (good Ys)[i].t.int):=hc 3 (by omega)
 have d4:W.cell? ⟨g,i*5+4,none⟩=some (.int .u64 (good Ys)[i].t.bits):=hc 4 (by omega)
 have n1:¬cb=W.heap.size:=by omega
 have n2:¬W.heap.size=cb:=by omega
 have n3:¬g=W.heap.size:=by omega
 have n4:¬W.heap.size=g:=by omega
 have k0:(0:Int)<=i:=Int.natCast_nonneg _
 have k1:((i:Int)==((good Ys).length:Int))=false:=by simp;omega
 have k2:(i:Int)<(good Ys).length:=by omega
 unfold fv at cr
 clear h hc
 generalize (good Ys)[i]=y at *
 clear hi
 generalize (good Ys).length=n at *
 obtain⟨⟨yk,yt,yi,yb⟩,ya,yc,yf⟩:=y
 generalize s.o=o at *
 unfold tv at *
 dsimp only at *
 have HQ1:=hid hq1
 have HQ2:=hid hq2
 clear hq1 hq2
 go_enter func29,ntmps29
 go_upto_region 1 with fail
 go_region
 go_upto_region 3 with fail
 go_region
 have hB2:Below W.heap.size W ((W.alloc (.cells #[.int .i64 0,.int .i64 0,.string ⟨#[]⟩,.int .i64 0,.int .u64 0] 36)).alloc (.cells #[.int .i64 yk,.int .i64 ya,.string yt,.int .i64 yi,.int .u64 yb] 36)).drew.drew:=((((aL _ W).alloc (aH _) _).alloc (by simp) _).drew).drew
 have q0:((W.alloc (.cells #[.int .i64 0,.int .i64 0,.string ⟨#[]⟩,.int .i64 0,.int .u64 0] 36)).alloc (.cells #[.int .i64 yk,.int .i64 ya,.string yt,.int .i64 yi,.int .u64 yb] 36)).drew.drew.heap[W.heap.size]? = some (.cells #[.int .i64 0,.int .i64 0,.string ⟨#[]⟩,.int .i64 0,.int .u64 0] 36 (0,0)):=(Below.heap_alloc _ _ _ (by simp)).trans (bO W _)
 have q1:((W.alloc (.cells #[.int .i64 0,.int .i64 0,.string ⟨#[]⟩,.int .i64 0,.int .u64 0] 36)).alloc (.cells #[.int .i64 yk,.int .i64 ya,.string yt,.int .i64 yi,.int .u64 yb] 36)).drew.drew.heap[W.heap.size+1]? = some (.cells #[.int .i64 yk,.int .i64 ya,.string yt,.int .i64 yi,.int .u64 yb] 36 (0,0)):=by
  have:=bO (W.alloc (.cells #[.int .i64 0,.int .i64 0,.string ⟨#[]⟩,.int .i64 0,.int .u64 0] 36)) (.cells #[.int .i64 yk,.int .i64 ya,.string yt,.int .i64 yi,.int .u64 yb] 36)
  rwa [World.size_alloc] at this
 generalize ((W.alloc (.cells #[.int .i64 0,.int .i64 0,.string ⟨#[]⟩,.int .i64 0,.int .u64 0] 36)).alloc (.cells #[.int .i64 yk,.int .i64 ya,.string yt,.int .i64 yi,.int .u64 yb] 36)).drew.drew=W2 at *
 have e4:W2.cell? ⟨cb,4,none⟩=some (.int .i64 o):=(hB2.cell (p:=⟨cb,4,none⟩) hl).trans c4
 have f0:=aA q1
 have f00:W2.cell? ⟨W.heap.size+1,0,none⟩=some (.int .i64 yk):=f0 0
 have f01:W2.cell? ⟨W.heap.size+1,1,none⟩=some (.int .i64 ya):=f0 1
 have f02:W2.cell? ⟨W.heap.size+1,2,none⟩=some (.string yt):=f0 2
 have f03:W2.cell? ⟨W.heap.size+1,3,none⟩=some (.int .i64 yi):=f0 3
 have f04:W2.cell? ⟨W.heap.size+1,4,none⟩=some (.int .u64 yb):=f0 4
 have z2:=hB2.size
 have lt1:=(aY.1 q1).1
 have HQ:=hid (And.intro hB2 (And.intro q0 q1))
 clear f0 c0 c3 c4 d0 d1 d2 d3 d4 k0 k1 k2 hB2 q0 q1 z2 hgc hg hgb n3 n4
 cases ho:dx ⟨yk,yt,yi,yb⟩
 all_goals rw[ho] at co
 ·clear cr
  go_upto_region 6 with(go_at_call 47;(with_reducible refine(co _).mono ?_);rintro e w3 ⟨rfl,b3⟩;clear co)
  obtain⟨hB2,q0,q1⟩:=HQ.out
  have r0:=(b3.block _ (by omega)).trans q0
  have r1:=(b3.block _ (by omega)).trans q1
  have f0:=aA r1
  have f00:w3.cell? ⟨W.heap.size+1,0,none⟩=some (.int .i64 yk):=f0 0
  have f01:w3.cell? ⟨W.heap.size+1,1,none⟩=some (.int .i64 ya):=f0 1
  have f02:w3.cell? ⟨W.heap.size+1,2,none⟩=some (.string yt):=f0 2
  have f03:w3.cell? ⟨W.heap.size+1,3,none⟩=some (.int .i64 yi):=f0 3
  have f04:w3.cell? ⟨W.heap.size+1,4,none⟩=some (.int .u64 yb):=f0 4
  have ec:=aA r0
  have ef:=aC r0
  have HR:=hid (And.intro r0 (hB2.trans (b3.mono hB2.size)))
  clear f0 r0 r1 hB2 q0 q1 b3
  go_wp2
  refine bodyPost_ret (lI rfl _ _ W.heap.size _ _ _ _ _ (0,0) rfl (gK HR.out.1 _ _ _ _ _)) rfl ?_
  exact HQ1.out (by simp[ho]) _ (jT HR.out.2 (aH _) _ _ _ _ _)
 ·by_cases h64:o=64
  ·have k64:(o==64)=true:=by simp[h64]
   go_wp2_with (first|(go_at_call 47;(with_reducible refine(co _).mono ?_);rintro e w3 ⟨rfl,b3⟩;clear co;(have hB3:=HQ.out.1.trans (b3.mono HQ.out.1.size));(have e4':w3.cell? ⟨cb,4,none⟩=some (.int .i64 o):=(b3.cell (p:=⟨cb,4,none⟩) (by show cb<W2.heap.size;omega)).trans e4);(have g01:w3.cell? ⟨W.heap.size+1,1,none⟩=some (.int .i64 ya):=(b3.cell (p:=⟨W.heap.size+1,1,none⟩) lt1).trans f01);(have HB3:=hid hB3);clear hB3 b3)|(go_at_call 46;(with_reducible refine(cr _ HB3.out).mono ?_);rintro e w4 ⟨he,ht,hu⟩;clear cr;(unfold kC fv at he);subst he))
   exact⟨rfl,HQ2.out ⟨ho,h64⟩ _ _ ⟨rfl,ht,hu⟩⟩
  ·have k64:(o==64)=false:=by simp[h64]
   clear cr
   go_upto_region 6 with(go_at_call 47;(with_reducible refine(co _).mono ?_);rintro e w3 ⟨rfl,b3⟩;clear co;(have e4':w3.cell? ⟨cb,4,none⟩=some (.int .i64 o):=(b3.cell (p:=⟨cb,4,none⟩) (by show cb<W2.heap.size;omega)).trans e4))
   obtain⟨hB2,q0,q1⟩:=HQ.out
   have r0:=(b3.block _ (by omega)).trans q0
   have r1:=(b3.block _ (by omega)).trans q1
   have f0:=aA r1
   have f00:w3.cell? ⟨W.heap.size+1,0,none⟩=some (.int .i64 yk):=f0 0
   have f01:w3.cell? ⟨W.heap.size+1,1,none⟩=some (.int .i64 ya):=f0 1
   have f02:w3.cell? ⟨W.heap.size+1,2,none⟩=some (.string yt):=f0 2
   have f03:w3.cell? ⟨W.heap.size+1,3,none⟩=some (.int .i64 yi):=f0 3
   have f04:w3.cell? ⟨W.heap.size+1,4,none⟩=some (.int .u64 yb):=f0 4
   have ec:=aA r0
   have ef:=aC r0
   have HR:=hid (And.intro r0 (hB2.trans (b3.mono hB2.size)))
   clear f0 r0 r1 hB2 q0 q1 b3
   go_wp2
   refine bodyPost_ret (lI rfl _ _ W.heap.size _ _ _ _ _ (0,0) rfl (gK HR.out.1 _ _ _ _ _)) rfl ?_
   exact HQ1.out (by simp[h64]) _ (jT HR.out.2 (aH _) _ _ _ _ _)
theorem look_ok(h:Qx W cb Ys s)(hy:look s=.ok y):Calls prog 29 #[.pointer (some ⟨cb,0,none⟩)] W λe w'=>e=.returned (tv y.t y.a)/\Below W.heap.size W w':=by
 obtain⟨i,v,t,h⟩:=h
 by_cases hi:i<(good Ys).length
 ·have h1:=(h.in hi).1
  rw[h1] at hy
  split at hy
  ·cases hy
  ·rename_i hn
   cases hy
   exact G8 h hi _ (λ_ w' hB=>⟨rfl,hB⟩) (λc=>absurd c hn)
 ·have hle:=h.le
  rw[h.end (by omega)] at hy
  cases hy
theorem Cq(h:Qx W cb Ys s)(hy:look s=.error f):Calls prog 29 #[.pointer (some ⟨cb,0,none⟩)] W λe w'=>Err W cb f e w':=by
 obtain⟨i,v,t,h⟩:=h
 by_cases hi:i<(good Ys).length
 ·have h1:=(h.in hi).1
  rw[h1] at hy
  split at hy
  ·rename_i hn
   cases hy
   exact G8 h hi _ (λc=>absurd hn c) (λ_ e w' he=>he)
  ·cases hy
 ·have hle:=h.le
  have hi':i=(good Ys).length:=by omega
  rw[h.end hi'] at hy
  cases hy
  exact Lv h hi'
end
end Go.Proofs.YtgchnkgolclmgaaGreatDoor.W.Tr
