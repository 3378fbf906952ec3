import Derived.Test.YtgchnkgolclmgaaGreatDoorJL
import Derived.Test.YtgchnkgolclmgaaGreatDoorJG
import Derived.Deep.RegionHeld3
import Derived.Lib.AppendZeros
open List renaming mem_cons → ay
open Array renaming getElem?_eq_some_iff → dQ
open Nat renaming le_refl → aY
open Go.World renaming alloc_heap_new → aH, size_alloc → dI
open Go.RowKit.Below renaming refl → aL, heap_setCell → bO, heap_alloc → bY
open Go.Proofs.Tryz
set_option maxRecDepth 1000000
set_option maxHeartbeats 8000000
namespace Go.Proofs.YtgchnkgolclmgaaGreatDoor.W.Tr
open Go.ChangeShapes Go.WideShapes Go.RowKit Go.Shelf
set_option linter.unusedVariables false
set_option linter.unusedSimpArgs false
def Xa(W:World)(cb:Nat)(Ys:List Yd)(v:Value)(r:Rs Fo)(e:Ending)(w':World):Prop:=match r with
 | .error f=>Err W cb f e w'
 | .ok (fo,s')=>∃b,e=.returned (ptr b)/\Cx W w' cb Ys v s'/\bg w' (λk=>W.heap.size<=k) [b] fo
def fZ(g:Nat)(nt:Nt)(n:Nat):Prop:=∀W cb Ys v s r,Cv W cb Ys v s->P n nt s=some r->Calls prog g #[ptr cb] W (Xa W cb Ys v r)
section
variable {W0 W w':World} {cb:Nat} {Ys:List Yd} {v:Value} {s s':Cs} {f:jv} {y:Yd} {e:Ending} {g n:Nat} {nt:Nt} {fo:Fo} {r:Rs Fo} {α:Type}
theorem Cx.trans{W1:World}(h:Cx W0 W cb Ys v s)(h1:Cx W w' cb Ys v s'):Cx W0 w' cb Ys v s':=⟨h1.cv,h.upd.trans' h1.upd,h.lt,h.own⟩
theorem fZ.ok(c:fZ g nt n)(h:Cx W0 W cb Ys v s)(hp:P n nt s=some (.ok (fo,s'))):Calls prog g #[ptr cb] W λe w'=>∃b,e=.returned (ptr b)/\Cx W0 w' cb Ys v s'/\It.bL (λk=>k=cb) W w'/\bg w' (λk=>W.heap.size<=k) [b] fo:=by
 refine(c W cb Ys v s _ h.cv hp).mono ?_
 rintro e w' ⟨b,he,h1,h2⟩
 exact⟨b,he,⟨h1.cv,h.upd.trans' h1.upd,h.lt,h.own⟩,h1.upd,h2⟩
theorem fZ.err(c:fZ g nt n)(h:Cx W0 W cb Ys v s)(hp:P n nt s=some (.error f)):Calls prog g #[ptr cb] W λe w'=>Err W0 cb f e w':=by
 refine(c W cb Ys v s _ h.cv hp).mono ?_
 intro e w' he
 exact h.err he
theorem fZ.tail(c:fZ g nt n)(h:Cx W0 W cb Ys v s)(hp:P n nt s=some r):Calls prog g #[ptr cb] W (Xa W0 cb Ys v r):=by
 refine(c W cb Ys v s _ h.cv hp).mono ?_
 intro e w' he
 match r,he with
 | .error f,he=>exact h.err he
 | .ok (fo,s'),⟨b,h0,h1,h2⟩=>exact⟨b,h0,⟨h1.cv,h.upd.trans' h1.upd,h.lt,h.own⟩,h2.mono (λk e=>Nat.le_trans h.upd.size e)⟩
theorem aX{β:Type}{x:Pm α}{k:α->Pm β}{r:Rs β}(h:x.bind k s=some r):(∃e,x s=some (.error e)/\r=.error e)\/∃a s',x s=some (.ok (a,s'))/\k a s'=some r:=by
 unfold Pm.bind at h
 cases hx:x s with
 | none=>rw[hx] at h;cases h
 | some q=>
  rw[hx] at h
  match q,h with
  | .error e,h=>exact .inl ⟨e,rfl,(Option.some.inj h).symm⟩
  | .ok (a,s'),h=>exact .inr ⟨a,s',rfl,h⟩
theorem bU{k:Yd->Pm α}{r:Rs α}(h:dW.bind k s=some r):(∃e,look s=.error e/\r=.error e)\/∃y,look s=.ok y/\k y s=some r:=by
 unfold Pm.bind dW at h
 cases hx:look s with
 | error e=>rw[hx] at h;exact .inl ⟨e,rfl,(Option.some.inj h).symm⟩
 | ok y=>rw[hx] at h;exact .inr ⟨y,rfl,h⟩
theorem dK{k:Yd->Pm α}{r:Rs α}(hy:look s=.ok y)(h:eG.bind k s=some r):k y (behind y s)=some r:=by
 unfold Pm.bind eG at h
 rw[hy] at h
 exact h
theorem bK{t:ByteArray}{k:Yd->Pm α}{r:Rs α}(h:(dw t).bind k s=some r):(∃e,look s=.error e/\r=.error e)\/(∃y,look s=.ok y/\¬aG y.t=t/\r=.error (70,y.a))\/∃y,look s=.ok y/\aG y.t=t/\k y (behind y s)=some r:=by
 unfold Pm.bind dw Pm.bind dW eG lN at h
 cases hx:look s with
 | error e=>rw[hx] at h;exact .inl ⟨e,rfl,(Option.some.inj h).symm⟩
 | ok y=>
  rw[hx] at h
  by_cases ht:aG y.t=t
  ·simp[ht,hx] at h
   exact .inr (.inr ⟨y,rfl,ht,h⟩)
  ·simp[ht] at h
   exact .inr (.inl ⟨y,rfl,ht,h.symm⟩)
theorem iU{k:Yd->Pm α}{r:Rs α}(h:kX.bind k s=some r):(∃e,look s=.error e/\r=.error e)\/(∃y,look s=.ok y/\¬y.t.kind=1/\r=.error (70,y.a))\/∃y,look s=.ok y/\y.t.kind=1/\k y (behind y s)=some r:=by
 unfold Pm.bind kX Pm.bind dW eG lN at h
 cases hx:look s with
 | error e=>rw[hx] at h;exact .inl ⟨e,rfl,(Option.some.inj h).symm⟩
 | ok y=>
  rw[hx] at h
  by_cases ht:y.t.kind=1
  ·simp[ht,hx] at h
   exact .inr (.inr ⟨y,rfl,ht,h⟩)
  ·simp[ht] at h
   exact .inr (.inl ⟨y,rfl,ht,h.symm⟩)
theorem aQ{a:α}{r:Rs α}(h:Pm.pure a s=some r):r=.ok (a,s):=(Option.some.inj h).symm
theorem zl(h:Cx W0 W cb Ys v s)(hy:look s=.ok y)(g:Nat)(k:ByteArray)(hk:aG y.t=k)(hz:W.cell? ⟨g,0,none⟩=some (.string k)):Calls prog 30 #[ptr cb,.slice (some ⟨g,0,none⟩) 1 1] W λe w'=>e=.returned (.bool true)/\Cx W0 w' cb Ys v s/\It.bL (λk=>k=cb) W w':=by
 have:=Fj h hy g k hz
 rwa [decide_eq_true hk] at this
theorem nT(h:Cx W0 W cb Ys v s)(hy:look s=.ok y)(g:Nat)(k:ByteArray)(hk:¬aG y.t=k)(hz:W.cell? ⟨g,0,none⟩=some (.string k)):Calls prog 30 #[ptr cb,.slice (some ⟨g,0,none⟩) 1 1] W λe w'=>e=.returned (.bool false)/\Cx W0 w' cb Ys v s/\It.bL (λk=>k=cb) W w':=by
 have:=Fj h hy g k hz
 rwa [decide_eq_false hk] at this
theorem OI(h:Cx W0 W cb Ys v s)(hy:look s=.ok y)(g:Nat)(k l:ByteArray)(hk:aG y.t=k\/aG y.t=l)(hz:W.cell? ⟨g,0,none⟩=some (.string k))(hz2:W.cell? ⟨g,1,none⟩=some (.string l)):Calls prog 30 #[ptr cb,.slice (some ⟨g,0,none⟩) 2 2] W λe w'=>e=.returned (.bool true)/\Cx W0 w' cb Ys v s/\It.bL (λk=>k=cb) W w':=by
 have:=Fh h hy g k l hz hz2
 rwa [decide_eq_true hk] at this
theorem OJ(h:Cx W0 W cb Ys v s)(hy:look s=.ok y)(g:Nat)(k l:ByteArray)(hk:¬ (aG y.t=k\/aG y.t=l))(hz:W.cell? ⟨g,0,none⟩=some (.string k))(hz2:W.cell? ⟨g,1,none⟩=some (.string l)):Calls prog 30 #[ptr cb,.slice (some ⟨g,0,none⟩) 2 2] W λe w'=>e=.returned (.bool false)/\Cx W0 w' cb Ys v s/\It.bL (λk=>k=cb) W w':=by
 have:=Fh h hy g k l hz hz2
 rwa [decide_eq_false hk] at this
theorem Oe{W1 W2 W3:World}{m:Nat}{bs:List Nat}{ks:Fo}{nd:Nd}(hk:bg W1 (λk=>m<=k) bs ks)(hm:m<=W1.heap.size)(hl:bs.length<=maxLen)(hr:W2=W1.alloc (.cells (bs.map ptr).toArray 54))(hB:Below W2.heap.size W2 W3)(hb:W3.heap[W2.heap.size+1]? = some (.cells (oI nd (.slice (some ⟨W1.heap.size,0,none⟩) bs.length bs.length)) 70 (0,0))):bg W3 (λk=>m<=k) [W2.heap.size+1] (Fo.one nd ks):=by
 have hB1:Below W1.heap.size W1 W2:=by rw[hr];exact(aL _ W1).alloc (aY _) _
 have hz:W2.heap.size=W1.heap.size+1:=by rw[hr];simp
 have hr2:W2.heap[W1.heap.size]? = some (.cells (bs.map ptr).toArray 54 (0,0)):=by rw[hr];exact aH W1 _
 have hr3:=aF hr2 hB
 refine bg.mk (by omega) hb (zm hr3 hl) ?_ ?_
 ·intro k e
  have:k=W1.heap.size:=(Option.some.inj e).symm
  omega
 ·refine bg.mono ?_ (((hk.lt).below hB1).below hB)
  intro k e
  refine⟨e.1,by omega,?_⟩
  intro c
  have:W1.heap.size=k:=Option.some.inj c
  omega
end
structure Sx (W0 W:World) (cb:Nat) (Ys:List Yd) (v:Value) (s:Cs) (L:List (Nat × Fo)) (M:List (Nat × Yd)):Prop where
 cx:Cx W0 W cb Ys v s
 ts:∀p ∈ L,bg W (λk=>W0.heap.size<=k) [p.1] p.2
 tk:∀p ∈ M,W0.heap.size<=p.1/\W.heap[p.1]? = some (.cells (dA p.2) 36 (0,0))
section
variable {W0 W w':World} {cb:Nat} {Ys:List Yd} {v:Value} {s s':Cs} {f:jv} {y:Yd} {e:Ending} {g n:Nat} {nt:Nt} {fo:Fo} {r:Rs Fo} {L:List (Nat × Fo)} {M:List (Nat × Yd)}
theorem Sx.start(h:Cv W cb Ys v s):Sx W W cb Ys v s [] []:=⟨Cx.start h,by simp,by simp⟩
theorem Sx.next(h:Sx W0 W cb Ys v s L M)(hc:Cx W0 w' cb Ys v s')(hu:It.bL (λk=>k=cb) W w'):Sx W0 w' cb Ys v s' L M:=⟨hc,λp hp=>(h.ts p hp).upd h.cx.lt hu,λp hp=>⟨(h.tk p hp).1,(hu.block _ (dQ.1 (h.tk p hp).2).1 (by have:=(h.tk p hp).1;have:=h.cx.lt;omega)).trans (h.tk p hp).2⟩⟩
theorem Sx.below(h:Sx W0 W cb Ys v s L M)(hB:Below W.heap.size W w'):Sx W0 w' cb Ys v s L M:=h.next (h.cx.below hB) (It.bL.of_below hB)
theorem Sx.alloc(h:Sx W0 W cb Ys v s L M)(o:Obj):Sx W0 (W.alloc o) cb Ys v s L M:=h.below ((aL _ W).alloc (aY _) _)
theorem Sx.drew(h:Sx W0 W cb Ys v s L M):Sx W0 W.drew cb Ys v s L M:=h.below (aL _ W).drew
theorem Sx.look(h:Sx W0 W cb Ys v s L M)(hy:look s=.ok y):Calls prog 29 #[ptr cb] W λe w'=>e=.returned (tv y.t y.a)/\Sx W0 w' cb Ys v s L M:=
 (SX h.cx hy).mono λe w' he=>⟨he.1,h.next he.2.1 he.2.2⟩
theorem Sx.take(h:Sx W0 W cb Ys v s L M)(hy:Tr.look s=.ok y):Calls prog 82 #[ptr cb] W λe w'=>e=.returned (tv y.t y.a)/\Sx W0 w' cb Ys v (behind y s) L M:=
 (Dx h.cx hy).mono λe w' he=>⟨he.1,h.next he.2.1 he.2.2⟩
theorem Sx.want(h:Sx W0 W cb Ys v s L M)(hy:Tr.look s=.ok y)(t:ByteArray)(ht:aG y.t=t):Calls prog 50 #[ptr cb,.string t] W λe w'=>e=.returned (tv y.t y.a)/\Sx W0 w' cb Ys v (behind y s) L M:=
 (qX h.cx hy t ht).mono λe w' he=>⟨he.1,h.next he.2.1 he.2.2⟩
theorem Sx.name(h:Sx W0 W cb Ys v s L M)(hy:Tr.look s=.ok y)(ht:y.t.kind=1):Calls prog 51 #[ptr cb] W λe w'=>e=.returned (tv y.t y.a)/\Sx W0 w' cb Ys v (behind y s) L M:=
 (SG h.cx hy ht).mono λe w' he=>⟨he.1,h.next he.2.1 he.2.2⟩
theorem Sx.gB(h:Sx W0 W cb Ys v s L M)(hy:Tr.look s=.ok y)(k:ByteArray)(hk:aG y.t=k):Calls prog 30 #[ptr cb,.slice (some ⟨W.heap.size,0,none⟩) 1 1] (W.alloc (.cells #[.string k] 9)) λe w'=>e=.returned (.bool true)/\Sx W0 w' cb Ys v s L M:=
 (zl (h.alloc _).cx hy _ k hk (aA (aH _ _) 0)).mono λe w' he=>⟨he.1,(h.alloc _).next he.2.1 he.2.2⟩
theorem Sx.iO(h:Sx W0 W cb Ys v s L M)(hy:Tr.look s=.ok y)(k:ByteArray)(hk:¬aG y.t=k):Calls prog 30 #[ptr cb,.slice (some ⟨W.heap.size,0,none⟩) 1 1] (W.alloc (.cells #[.string k] 9)) λe w'=>e=.returned (.bool false)/\Sx W0 w' cb Ys v s L M:=
 (nT (h.alloc _).cx hy _ k hk (aA (aH _ _) 0)).mono λe w' he=>⟨he.1,(h.alloc _).next he.2.1 he.2.2⟩
theorem Sx.RY(h:Sx W0 W cb Ys v s L M)(hy:Tr.look s=.ok y)(k l:ByteArray)(hk:aG y.t=k\/aG y.t=l):Calls prog 30 #[ptr cb,.slice (some ⟨W.heap.size,0,none⟩) 2 2] (W.alloc (.cells #[.string k,.string l] 9)) λe w'=>e=.returned (.bool true)/\Sx W0 w' cb Ys v s L M:=
 (OI (h.alloc _).cx hy _ k l hk (aA (aH _ _) 0) (aA (aH _ _) 1)).mono λe w' he=>⟨he.1,(h.alloc _).next he.2.1 he.2.2⟩
theorem Sx.RZ(h:Sx W0 W cb Ys v s L M)(hy:Tr.look s=.ok y)(k l:ByteArray)(hk:¬ (aG y.t=k\/aG y.t=l)):Calls prog 30 #[ptr cb,.slice (some ⟨W.heap.size,0,none⟩) 2 2] (W.alloc (.cells #[.string k,.string l] 9)) λe w'=>e=.returned (.bool false)/\Sx W0 w' cb Ys v s L M:=
 (OJ (h.alloc _).cx hy _ k l hk (aA (aH _ _) 0) (aA (aH _ _) 1)).mono λe w' he=>⟨he.1,(h.alloc _).next he.2.1 he.2.2⟩
theorem Sx.kV(h:Sx W0 W cb Ys v s L M)(hy:Tr.look s=.error f)(o:Obj)(z:Value):Calls prog 30 #[ptr cb,z] (W.alloc o) λe w'=>Err W0 cb f e w':=RX (h.alloc o).cx hy z
theorem Sx.zB(h:Sx W0 W cb Ys v s L M)(hy:Tr.look s=.error f):Calls prog 29 #[ptr cb] W λe w'=>Err W0 cb f e w':=A8 h.cx hy
theorem Sx.Uf(h:Sx W0 W cb Ys v s L M)(hy:Tr.look s=.error f):Calls prog 82 #[ptr cb] W λe w'=>Err W0 cb f e w':=RJ h.cx hy
theorem Sx.aN(h:Sx W0 W cb Ys v s L M)(hy:Tr.look s=.error f)(t:ByteArray):Calls prog 50 #[ptr cb,.string t] W λe w'=>Err W0 cb f e w':=RA h.cx hy t
theorem Sx.fG(h:Sx W0 W cb Ys v s L M)(hy:Tr.look s=.ok y)(t:ByteArray)(ht:¬aG y.t=t):Calls prog 50 #[ptr cb,.string t] W λe w'=>Err W0 cb (70,y.a) e w':=Jz h.cx hy t ht
theorem Sx.bP(h:Sx W0 W cb Ys v s L M)(hy:Tr.look s=.error f):Calls prog 51 #[ptr cb] W λe w'=>Err W0 cb f e w':=SH h.cx hy
theorem Sx.dO(h:Sx W0 W cb Ys v s L M)(hy:Tr.look s=.ok y)(ht:¬y.t.kind=1):Calls prog 51 #[ptr cb] W λe w'=>Err W0 cb (70,y.a) e w':=Lm h.cx hy ht
theorem Sx.part(h:Sx W0 W cb Ys v s L M)(c:fZ g nt n)(hp:P n nt s=some (.ok (fo,s'))):Calls prog g #[ptr cb] W λe w'=>∃b,e=.returned (ptr b)/\Sx W0 w' cb Ys v s' ((b,fo)::L) M:=by
 refine(c.ok h.cx hp).mono ?_
 rintro e w' ⟨b,he,h1,h2,h3⟩
 refine⟨b,he,h1,?_,((h.next h1 h2).tk)⟩
 intro p hp
 rcases ay.1 hp with rfl|hp
 ·exact h3.mono (λk e=>Nat.le_trans h.cx.upd.size e)
 ·exact(h.ts p hp).upd h.cx.lt h2
theorem Sx.dN(h:Sx W0 W cb Ys v s L M)(c:fZ g nt n)(hp:P n nt s=some (.error f)):Calls prog g #[ptr cb] W λe w'=>Err W0 cb f e w':=c.err h.cx hp
theorem Sx.node{W2:World}(h:Sx W0 W cb Ys v s L M){bs:List Nat}{ks:Fo}{nd:Nd}(hk:bg W (λk=>W0.heap.size<=k) bs ks)(hl:bs.length<=maxLen)(hr:W2=W.alloc (.cells (bs.map ptr).toArray 54))(hB:Below W2.heap.size W2 w')(hb:w'.heap[W2.heap.size+1]? = some (.cells (oI nd (.slice (some ⟨W.heap.size,0,none⟩) bs.length bs.length)) 70 (0,0))):Sx W0 w' cb Ys v s ((W2.heap.size+1,Fo.one nd ks)::L) M:=by
 have hB1:Below W.heap.size W W2:=by rw[hr];exact(aL _ W).alloc (aY _) _
 have h2:=(h.below hB1).below hB
 refine⟨h2.cx,?_,h2.tk⟩
 intro p hp
 rcases ay.1 hp with rfl|hp
 ·exact Oe hk h.cx.upd.size hl hr hB hb
 ·exact h2.ts p hp
theorem Sx.om{nd:Nd}(h:Sx W0 W cb Ys v s L M)(hB:Below W.heap.size W w')(hb:w'.heap[W.heap.size+1]? = some (.cells (oI nd (.slice none 0 0)) 70 (0,0))):Sx W0 w' cb Ys v s ((W.heap.size+1,Fo.one nd .nil)::L) M:=by
 have h2:=h.below hB
 refine⟨h2.cx,?_,h2.tk⟩
 intro p hp
 rcases ay.1 hp with rfl|hp
 ·refine bg.mk (v:=.slice none 0 0) (bk:=[]) ?_ hb (World.ownsRow_nil _ _ _ _) ?_ rfl
  ·have:=h.cx.upd.size
   omega
  ·intro k e
   cases e
 ·exact h2.ts p hp
theorem Sx.gu(h:Sx W0 W cb Ys v s L M)(y:Yd):Sx W0 (W.alloc (.cells #[.int .i64 y.t.kind,.int .i64 y.a,.string y.t.text,.int .i64 y.t.int,.int .u64 y.t.bits] 36)) cb Ys v s L ((W.heap.size,y)::M):=by
 have h2:=h.alloc (.cells #[.int .i64 y.t.kind,.int .i64 y.a,.string y.t.text,.int .i64 y.t.int,.int .u64 y.t.bits] 36)
 refine⟨h2.cx,h2.ts,?_⟩
 intro p hp
 rcases ay.1 hp with rfl|hp
 ·exact⟨h.cx.upd.size,aH W _⟩
 ·exact h2.tk p hp
theorem Sx.tok{b:Nat}(h:Sx W0 W cb Ys v s L M)(m:(b,y) ∈ M):W.cell? ⟨b,0,none⟩=some (.int .i64 y.t.kind)/\W.cell? ⟨b,1,none⟩=some (.int .i64 y.a)/\W.cell? ⟨b,2,none⟩=some (.string y.t.text)/\W.cell? ⟨b,3,none⟩=some (.int .i64 y.t.int)/\W.cell? ⟨b,4,none⟩=some (.int .u64 y.t.bits):=by
 have h1:=aA (h.tk _ m).2
 exact⟨h1 0,h1 1,h1 2,h1 3,h1 4⟩
theorem one_le:3<=maxLen:=by decide
theorem Sx.NM(h:Sx W0 W cb Ys v s L M)(k:Int)(y:Yd):Calls prog 28 #[.int .i64 k,tv y.t y.a,.slice none 0 0] W λe w'=>∃b,e=.returned (ptr b)/\Sx W0 w' cb Ys v s ((b,Fo.one (kT k y) .nil)::L) M:=by
 refine(Tj k y none 0 0 W).mono ?_
 rintro e w' ⟨he,h1,h2,h3⟩
 exact⟨_,he,h.om h1 h2⟩
theorem Sx.at1{b1:Nat}{f1:Fo}(h:Sx W0 W cb Ys v s L M)(k:Int)(y:Yd)(m1:(b1,f1) ∈ L):Calls prog 28 #[.int .i64 k,tv y.t y.a,.slice (some ⟨W.heap.size,0,none⟩) 1 1] (W.alloc (.cells #[ptr b1] 54)) λe w'=>∃b,e=.returned (ptr b)/\Sx W0 w' cb Ys v s ((b,Fo.one (kT k y) f1)::L) M:=by
 refine(Tj k y _ 1 1 _).mono ?_
 rintro e w' ⟨he,h1,h2,h3⟩
 exact⟨_,he,h.node (bs:=[b1]) (h.ts _ m1) (by have:=one_le;simp;omega) rfl h1 h2⟩
theorem Sx.at2{b1 b2:Nat}{f1 f2:Fo}(h:Sx W0 W cb Ys v s L M)(k:Int)(y:Yd)(m1:(b1,f1) ∈ L)(m2:(b2,f2) ∈ L):Calls prog 28 #[.int .i64 k,tv y.t y.a,.slice (some ⟨W.heap.size,0,none⟩) 2 2] (W.alloc (.cells #[ptr b1,ptr b2] 54)) λe w'=>∃b,e=.returned (ptr b)/\Sx W0 w' cb Ys v s ((b,Fo.one (kT k y) (f1.app f2))::L) M:=by
 refine(Tj k y _ 2 2 _).mono ?_
 rintro e w' ⟨he,h1,h2,h3⟩
 exact⟨_,he,h.node (bs:=[b1,b2]) ((h.ts _ m1).app (h.ts _ m2)) (by have:=one_le;simp;omega) rfl h1 h2⟩
theorem Sx.QG(h:Sx W0 W cb Ys v s L M)(k:Int)(y:Yd):Calls prog 52 #[.int .i64 k,tv y.t y.a,.slice none 0 0] W λe w'=>∃b,e=.returned (ptr b)/\Sx W0 w' cb Ys v s ((b,Fo.one (jr k y) .nil)::L) M:=by
 refine(Lf k y none 0 0 W).mono ?_
 rintro e w' ⟨he,h1,h2,h3⟩
 exact⟨_,he,h.om h1 h2⟩
theorem Sx.of1{b1:Nat}{f1:Fo}(h:Sx W0 W cb Ys v s L M)(k:Int)(y:Yd)(m1:(b1,f1) ∈ L):Calls prog 52 #[.int .i64 k,tv y.t y.a,.slice (some ⟨W.heap.size,0,none⟩) 1 1] (W.alloc (.cells #[ptr b1] 54)) λe w'=>∃b,e=.returned (ptr b)/\Sx W0 w' cb Ys v s ((b,Fo.one (jr k y) f1)::L) M:=by
 refine(Lf k y _ 1 1 _).mono ?_
 rintro e w' ⟨he,h1,h2,h3⟩
 exact⟨_,he,h.node (bs:=[b1]) (h.ts _ m1) (by have:=one_le;simp;omega) rfl h1 h2⟩
theorem Sx.of2{b1 b2:Nat}{f1 f2:Fo}(h:Sx W0 W cb Ys v s L M)(k:Int)(y:Yd)(m1:(b1,f1) ∈ L)(m2:(b2,f2) ∈ L):Calls prog 52 #[.int .i64 k,tv y.t y.a,.slice (some ⟨W.heap.size,0,none⟩) 2 2] (W.alloc (.cells #[ptr b1,ptr b2] 54)) λe w'=>∃b,e=.returned (ptr b)/\Sx W0 w' cb Ys v s ((b,Fo.one (jr k y) (f1.app f2))::L) M:=by
 refine(Lf k y _ 2 2 _).mono ?_
 rintro e w' ⟨he,h1,h2,h3⟩
 exact⟨_,he,h.node (bs:=[b1,b2]) ((h.ts _ m1).app (h.ts _ m2)) (by have:=one_le;simp;omega) rfl h1 h2⟩
theorem Sx.res{b:Nat}(h:Sx W w' cb Ys v s L M)(m:(b,fo) ∈ L):Xa W cb Ys v (.ok (fo,s)) (.returned (ptr b)) w':=⟨b,rfl,h.cx,h.ts _ m⟩
def xZ(g:Nat)(a:Value)(nt:Nt)(n:Nat):Prop:=∀W cb Ys v s r,Cv W cb Ys v s->P n nt s=some r->Calls prog g #[ptr cb,a] W (Xa W cb Ys v r)
theorem Sx.jD{a:Value}(h:Sx W0 W cb Ys v s L M)(c:xZ g a nt n)(hp:P n nt s=some (.ok (fo,s'))):Calls prog g #[ptr cb,a] W λe w'=>∃b,e=.returned (ptr b)/\Sx W0 w' cb Ys v s' ((b,fo)::L) M:=by
 refine(c W cb Ys v s _ h.cx.cv hp).mono ?_
 rintro e w' ⟨b,he,h1,h3⟩
 have h2:Cx W0 w' cb Ys v s':=⟨h1.cv,h.cx.upd.trans' h1.upd,h.cx.lt,h.cx.own⟩
 have h4:=h.next h2 h1.upd
 refine⟨b,he,h2,?_,h4.tk⟩
 intro p hp
 rcases ay.1 hp with rfl|hp
 ·exact h3.mono (λk e=>Nat.le_trans h.cx.upd.size e)
 ·exact h4.ts p hp
theorem Sx.tX{a:Value}(h:Sx W0 W cb Ys v s L M)(c:xZ g a nt n)(hp:P n nt s=some (.error f)):Calls prog g #[ptr cb,a] W λe w'=>Err W0 cb f e w':=
 (c W cb Ys v s _ h.cx.cv hp).mono λe w' he=>h.cx.err he
theorem lT(h:P n nt s=some (.ok (fo,s'))):s'.r.length+least nt<=s.r.length:=by
 obtain⟨m,q,h1,h2⟩:=F3 (s.r.length+1) s (by omega) nt
 have:=Qw h (h1 m (aY _))
 exact h2 fo s' this.symm
theorem iH(hy:Tr.look s=.ok y):(behind y s).r.length<s.r.length:=by
 unfold Tr.look at hy
 cases hr:s.r with
 | nil=>rw[hr] at hy;cases hy
 | cons z l=>simp[behind,hr]
theorem iY{r:Rs Fo}(h:P 0 nt s=some r):False:=by cases h
def NK(w:World)(cb:Nat):Nat:=match w.cell? ⟨cb,3,none⟩ with
 | some (.int _ i)=>i.toNat
 | _=>0
theorem Sx.left(h:Sx W0 W cb Ys v s L M):Ys.length-NK W cb=s.r.length:=by
 obtain⟨i,t,c⟩:=h.cx.cv
 have e:W.cell? ⟨cb,3,none⟩=some (.int .i64 (i:Nat)):=aA c.top 3
 have:NK W cb=i:=by
  unfold NK
  rw[e]
  simp
 rw[this,c.at',List.length_drop]
theorem Sx.sub{L':List (Nat × Fo)}{M':List (Nat × Yd)}(h:Sx W0 W cb Ys v s L M)(hL:∀p ∈ L',p ∈ L)(hM:∀p ∈ M',p ∈ M):Sx W0 W cb Ys v s L' M':=⟨h.cx,λp hp=>h.ts p (hL p hp),λp hp=>h.tk p (hM p hp)⟩
end
structure Br (m:Nat) (W:World) (b:Nat) (n:Nd) (u:Value) (bk:List Nat) (ks:Fo):Prop where
 lo:m<=b
 top:W.heap[b]? = some (.cells (oI n u) 70 (0,0))
 row:W.ownsRow m 54 1 u bk.length (bk.map ptr)
 ne:∀k,u.ownBlock=some k->k≠b
 kids:bg W (λk=>m<=k/\k≠b/\u.ownBlock≠some k) bk ks
section
variable {W0 W w':World} {cb b m:Nat} {Ys:List Yd} {v u:Value} {s s':Cs} {f:jv} {y:Yd} {e:Ending} {g n:Nat} {nt:Nt} {fo ks fx:Fo} {nd:Nd} {bk:List Nat} {r:Rs Fo} {L:List (Nat × Fo)} {M:List (Nat × Yd)}
theorem iG{W:World}{a c:Nat}{e:TypeId}{size:Nat}{v:Value}{n:Nat}{xs:List Value}(h:W.ownsRow a e size v n xs)(hv:∀k,v.ownBlock=some k->c<=k):W.ownsRow c e size v n xs:=by
 refine⟨h.1,?_⟩
 rcases h.2 with h2|⟨g,cap,cur,rfl,h2,h3⟩
 ·exact .inl h2
 ·exact .inr ⟨g,cap,cur,rfl,hv g rfl,h3⟩
theorem Br.of(h:bg W (λk=>m<=k) [b] (Fo.one nd ks)):∃u bk,Br m W b nd u bk ks:=by
 obtain⟨b',bs',v,bk,h1,h2,h3,h4,h5,h6,h7⟩:=h
 simp only[List.cons.injEq] at h1
 obtain⟨rfl,rfl⟩:=h1
 exact⟨v,bk,h2,h3,iG h4 (λk e=>(h5 k e).1),λk e=>(h5 k e).2,h6⟩
theorem Br.shut(h:Br m W b nd u bk ks):bg W (λk=>m<=k) [b] (Fo.one nd ks):=
 bg.mk h.lo h.top (iG h.row (λ_ _=>Nat.zero_le _)) (λk e=>⟨(h.row.lt k e).1,h.ne k e⟩) h.kids
theorem Br.slice(h:Br m W b nd u bk ks):∃o c,u=.slice o bk.length c:=aI h.row
theorem Br.lt(h:Br m W b nd u bk ks):b<W.heap.size:=(dQ.1 h.top).1
theorem Br.upd(h:Br m W b nd u bk ks)(hc:cb<m)(hU:It.bL (λk=>k=cb) W w'):Br m w' b nd u bk ks:=
 ⟨h.lo,(hU.block b h.lt (by have:=h.lo;omega)).trans h.top,bD h.row (λk e=>hU.block k (h.row.lt k e).2 (by have:=(h.row.lt k e).1;omega)),h.ne,h.kids.on (λk e hk=>hU.block k hk (by omega))⟩
theorem Ux:prog.underlying 68=some (.slice 54):=by kernel_rfl
theorem DF:(prog.info? 54).map (λi=>(i.zero,i.size,i.bytes))=some (some (.pointer none),1,8):=by kernel_rfl
theorem fF(W:World)(ty:TypeId)(v:Value)(n:Nat)(xs:List Value){B0:Nat}(hown:W.ownsRow B0 54 1 v n xs)(hB:B0<=W.heap.size)(x:Nat)(hn:n<=2000000):∃v' w',(Builtin.append_ #[68,68] ty #[v,.slice (some ⟨W.heap.size,0,none⟩) 1 1]).run prog (W.alloc (.cells #[ptr x] 54))=.ok v' w'/\w'.ownsRow B0 54 1 v' (n+1) (xs++[ptr x])/\(W.alloc (.cells #[ptr x] 54)).grownBy w' v.ownBlock/\(v'.ownBlock=v.ownBlock\/v'.ownBlock=some (W.alloc (.cells #[ptr x] 54)).heap.size):=by
 obtain⟨i0,hi,hz0,hz1,hz2⟩:∃i,prog.info? 54=some i/\i.zero=some (.pointer none)/\i.size=1/\i.bytes=8:=by
  have h:=DF
  cases hq:prog.info? 54 with
  | none=>rw[hq] at h;cases h
  | some i=>
   rw[hq] at h
   simp at h
   exact⟨i,rfl,h.1,h.2.1,h.2.2⟩
 have e0:=World.cell?_alloc_new W #[ptr x] 54
 have ho:=hown.alloc (.cells #[ptr x] 54)
 obtain⟨v',w',h1,h2,h3,_,h5⟩:=run_append_own_at (P:=prog) (W.alloc (.cells #[ptr x] 54)) B0 68 ty 54 i0 _ 1 8 Ux hi hz0 hz1 hz2 rfl (by omega) v n xs ho ⟨W.heap.size,0,none⟩ 1 1 [ptr x] (by simp) (by
  intro j u hj
  have e1:((⟨W.heap.size,0,none⟩:Addr).add j)=⟨W.heap.size,j,none⟩:=by simp[Addr.add];intro e;exact e.symm
  rw[e1,e0 j]
  simpa using hj) (by
  intro u hu
  simp at hu
  rw[hu]
  rfl) (by unfold maxLen;omega) (by omega) (by simp;omega)
 exact⟨v',w',h1,h2,h3,h5⟩
theorem Sx.jZ(h:Sx W0 W cb Ys v s L M)(c:fZ g nt n)(hp:P n nt s=some (.ok (fo,s'))):Calls prog g #[ptr cb] W λe w'=>∃x,e=.returned (ptr x)/\Sx W0 w' cb Ys v s' L M/\It.bL (λk=>k=cb) W w'/\bg w' (λk=>W.heap.size<=k) [x] fo:=by
 refine(c.ok h.cx hp).mono ?_
 rintro e w' ⟨b,he,h1,h2,h3⟩
 exact⟨b,he,h.next h1 h2,h2,h3⟩
theorem Sx.append{w2 w4:World}{x:Nat}{u':Value}(h:Sx W0 w2 cb Ys v s L M)(hU:It.bL (λk=>k=cb) W w2)(hW:W0.heap.size<=W.heap.size)(hb:Br W0.heap.size W b nd u bk ks)(hx:bg w2 (λk=>W.heap.size<=k) [x] fx)
  (h2:w4.ownsRow W0.heap.size 54 1 u' (bk.length+1) (bk.map ptr++[ptr x])) (h3:(w2.alloc (.cells #[ptr x] 54)).grownBy w4 u.ownBlock) (h5:u'.ownBlock=u.ownBlock\/u'.ownBlock=some (w2.alloc (.cells #[ptr x] 54)).heap.size) :
  Sx W0 (w4.setCell ⟨b,6,none⟩ u') cb Ys v s [(b,Fo.one nd (ks.app fx))] []:=by
 have hb2:=hb.upd h.cx.lt hU
 have lb:=hb.lt
 have lu:∀k,u.ownBlock=some k->k<W.heap.size:=λk e=>(hb.row.lt k e).2
 have Nj:∀k,u.ownBlock=some k->W0.heap.size<=k:=λk e=>(hb.row.lt k e).1
 have z2:=hU.size
 have z3:(w2.alloc (.cells #[ptr x] 54)).heap.size=w2.heap.size+1:=dI _ _
 have z4:=h3.size
 rw[z3] at z4 h5
 have keep:∀k,k<w2.heap.size->k≠b->u.ownBlock≠some k->(w4.setCell ⟨b,6,none⟩ u').heap[k]? = w2.heap[k]?:=by
  intro k hk hn hu
  rw[bO _ _ _ _ hn,h3.block k (by omega) (λe=>hu e.symm),bY _ _ _ hk]
 have hlo:=hb.lo
 have ub:∀k,u'.ownBlock=some k->k≠b/\W0.heap.size<=k:=by
  intro k e
  rcases h5 with h5|h5
  ·rw[h5] at e
   exact⟨hb.ne k e,Nj k e⟩
  ·rw[h5] at e
   have:w2.heap.size+1=k:=Option.some.inj e
   omega
 have mE:It.bL (λk=>k=cb) W0 (w4.setCell ⟨b,6,none⟩ u'):=by
  have a1:=(h.alloc (.cells #[ptr x] 54)).cx.upd
  have a2:=a1.grown h3 (λk e=>.inr ⟨Nj k e,by have:=lu k e;rw[dI];omega⟩)
  exact a2.setCell (p:=⟨b,6,none⟩) (.inr ⟨hlo,by show b<w4.heap.size;omega⟩) u'
 have t4:w4.heap[b]? = some (.cells (oI nd u) 70 (0,0)):=by
  rw[h3.block b (by omega) (λe=>hb.ne b e.symm rfl),bY _ _ _ (by omega)]
  exact hb2.top
 have t5:=aM (c:=[.int .i64 nd.kind,.int .i64 nd.a,.int .i64 0,.string nd.text,.int .i64 nd.int,.int .u64 nd.bits,u]) t4 6 u'
 have hBr:Br W0.heap.size (w4.setCell ⟨b,6,none⟩ u') b nd u' (bk++[x]) (ks.app fx):=by
  refine⟨hlo,t5,?_,λk e=>(ub k e).1,?_⟩
  ·have:=bD (W':=w4.setCell ⟨b,6,none⟩ u') h2 (λk e=>bO _ _ _ _ (ub k e).1)
   simpa using this
  ·refine bg.app ?_ ?_
   ·refine bg.mono ?_ ((hb2.kids.lt).on (λk e hk=>keep k e.2 e.1.2.1 e.1.2.2))
    intro k e
    refine⟨e.1.1,e.1.2.1,?_⟩
    intro c
    rcases h5 with h5|h5
    ·exact e.1.2.2 (h5 ▸ c)
    ·rw[h5] at c
     have:w2.heap.size+1=k:=Option.some.inj c
     omega
   ·refine bg.mono ?_ ((hx.lt).on (λk e hk=>keep k e.2 (by omega) (λc=>by have:=lu k c;omega)))
    intro k e
    refine⟨by omega,by omega,?_⟩
    intro c
    rcases h5 with h5|h5
    ·rw[h5] at c
     have:=lu k c
     omega
    ·rw[h5] at c
     have:w2.heap.size+1=k:=Option.some.inj c
     omega
 refine⟨h.cx.keep (λk hk=>keep k (by have:=h.cx.upd.size;omega) (by omega) (λc=>by have:=Nj k c;omega)) mE,?_,by simp⟩
 intro p hp
 simp at hp
 subst hp
 exact hBr.shut
theorem Sx.Rv(h:Sx W0 W cb Ys v s L M)(k:Int)(y:Yd):Calls prog 52 #[.int .i64 k,.agg #[.int .i64 y.t.kind,.int .i64 y.a,.string y.t.text,.int .i64 y.t.int,.int .u64 y.t.bits],.slice none 0 0] W λe w'=>∃b,e=.returned (ptr b)/\Sx W0 w' cb Ys v s ((b,Fo.one (jr k y) .nil)::L) M:=h.QG k y
theorem Sx.VK{b1:Nat}{f1:Fo}(h:Sx W0 W cb Ys v s L M)(k:Int)(y:Yd)(m1:(b1,f1) ∈ L):Calls prog 52 #[.int .i64 k,.agg #[.int .i64 y.t.kind,.int .i64 y.a,.string y.t.text,.int .i64 y.t.int,.int .u64 y.t.bits],.slice (some ⟨W.heap.size,0,none⟩) 1 1] (W.alloc (.cells #[ptr b1] 54)) λe w'=>∃b,e=.returned (ptr b)/\Sx W0 w' cb Ys v s ((b,Fo.one (jr k y) f1)::L) M:=h.of1 k y m1
theorem Sx.top(h:Sx W0 W cb Ys v s L M)(m:(b,Fo.one nd ks) ∈ L):∃u,W.heap[b]? = some (.cells (oI nd u) 70 (0,0)):=by
 obtain⟨u,bk,hb⟩:=Br.of (h.ts _ m)
 exact⟨u,hb.top⟩
theorem Sx.cells(h:Sx W0 W cb Ys v s L M)(m:(b,Fo.one nd ks) ∈ L):W.cell? ⟨b,0,none⟩=some (.int .i64 nd.kind)/\W.cell? ⟨b,1,none⟩=some (.int .i64 nd.a)/\W.cell? ⟨b,3,none⟩=some (.string nd.text)/\∀j,W.frozen? ⟨b,j,none⟩=false:=by
 obtain⟨u,ht⟩:=h.top m
 have h1:=aA ht
 exact⟨h1 0,h1 1,h1 3,aC ht⟩
theorem Sx.set{nd':Nd}(h:Sx W0 W cb Ys v s L M)(m:(b,Fo.one nd ks) ∈ L)(j:Nat)(x:Value)(hn:∀u,(oI nd u).toList.set j x=(oI nd' u).toList):Sx W0 (W.setCell ⟨b,j,none⟩ x) cb Ys v s [(b,Fo.one nd' ks)] []:=by
 obtain⟨u,bk,hb⟩:=Br.of (h.ts _ m)
 have lb:=hb.lt
 have hlo:=hb.lo
 have keep:∀k,k≠b->(W.setCell ⟨b,j,none⟩ x).heap[k]? = W.heap[k]?:=λk hk=>bO _ _ _ _ hk
 have hU:=h.cx.upd.setCell (p:=⟨b,j,none⟩) (.inr ⟨hlo,lb⟩) x
 have t5:=aM (c:=(oI nd u).toList) hb.top j x
 rw[hn u] at t5
 have hBr:Br W0.heap.size (W.setCell ⟨b,j,none⟩ x) b nd' u bk ks:=
  ⟨hlo,t5,bD hb.row (λk e=>keep k (hb.ne k e)),hb.ne,hb.kids.on (λk e _=>keep k e.2.1)⟩
 refine⟨h.cx.keep (λk hk=>keep k (by omega)) hU,?_,by simp⟩
 intro p hp
 simp at hp
 subst hp
 exact hBr.shut
theorem Sx.gP(h:Sx W0 W cb Ys v s L M):Sx W W cb Ys v s [] []:=⟨⟨h.cx.cv,It.bL.refl _ _,h.cx.Ed,λk e=>Nat.lt_of_lt_of_le (h.cx.own k e) h.cx.upd.size⟩,by simp,by simp⟩
theorem Sx.V3{Wb w2:World}{s1:Cs}{b1 b2 b3:Nat}{f1 f2 f3:Fo}{L1:List (Nat × Fo)}{M1:List (Nat × Yd)}(h0:Sx W0 Wb cb Ys v s1 L M)(m:(b,Fo.one nd .nil) ∈ L)(h:Sx Wb w2 cb Ys v s L1 M1)(m1:(b1,f1) ∈ L1)(m2:(b2,f2) ∈ L1)(m3:(b3,f3) ∈ L1):Sx W0 ((w2.alloc (.cells #[ptr b1,ptr b2,ptr b3] 54)).setCell ⟨b,6,none⟩ (.slice (some ⟨w2.heap.size,0,none⟩) 3 3)) cb Ys v s [(b,Fo.one nd ((f1.app f2).app f3))] []:=by
 obtain⟨u,bk,hb⟩:=Br.of (h0.ts _ m)
 have lb:=hb.lt
 have hlo:=hb.lo
 have hz:=h.cx.upd.size
 have hz0:=h0.cx.upd.size
 have hcb:=h0.cx.lt
 have keep:∀k,k≠b->k<w2.heap.size->((w2.alloc (.cells #[ptr b1,ptr b2,ptr b3] 54)).setCell ⟨b,6,none⟩ (.slice (some ⟨w2.heap.size,0,none⟩) 3 3)).heap[k]? = w2.heap[k]?:=λk hk hl=>(bO _ _ _ _ hk).trans (bY _ _ _ hl)
 have t2:w2.heap[b]? = some (.cells (oI nd u) 70 (0,0)):=(h.cx.upd.block b lb (by omega)).trans hb.top
 have t3:=(bY w2 (.cells #[ptr b1,ptr b2,ptr b3] 54) b (by omega)).trans t2
 have t5:=aM (c:=(oI nd u).toList) t3 6 (.slice (some ⟨w2.heap.size,0,none⟩) 3 3)
 have hU0:It.bL (λk=>k=cb) W0 (w2.alloc (.cells #[ptr b1,ptr b2,ptr b3] 54)):=(h0.cx.upd.trans' h.cx.upd).trans' (It.bL.of_below ((aL _ w2).alloc (aY _) _))
 have hU:=hU0.setCell (p:=⟨b,6,none⟩) (.inr ⟨hlo,by show b<_;rw[dI];omega⟩) (.slice (some ⟨w2.heap.size,0,none⟩) 3 3)
 have r3:((w2.alloc (.cells #[ptr b1,ptr b2,ptr b3] 54)).setCell ⟨b,6,none⟩ (.slice (some ⟨w2.heap.size,0,none⟩) 3 3)).heap[w2.heap.size]? = some (.cells ([b1,b2,b3].map ptr).toArray 54 (0,0)):=(bO _ _ _ _ (by show w2.heap.size≠b;omega)).trans (aH w2 _)
 have hro:=zm (bs:=[b1,b2,b3]) r3 (by have:=one_le;simp;omega)
 have hk:bg w2 (λk=>Wb.heap.size<=k) [b1,b2,b3] ((f1.app f2).app f3):=((h.ts _ m1).app (h.ts _ m2)).app (h.ts _ m3)
 have hBr:bg ((w2.alloc (.cells #[ptr b1,ptr b2,ptr b3] 54)).setCell ⟨b,6,none⟩ (.slice (some ⟨w2.heap.size,0,none⟩) 3 3)) (λk=>W0.heap.size<=k) [b] (Fo.one nd ((f1.app f2).app f3)):=by
  refine bg.mk hlo t5 hro ?_ ?_
  ·intro k e
   have:w2.heap.size=k:=Option.some.inj e
   omega
  ·refine bg.mono ?_ (hk.lt.on (λk e _=>keep k (by omega) e.2))
   intro k e
   refine⟨by omega,by omega,?_⟩
   intro c
   have:w2.heap.size=k:=Option.some.inj c
   omega
 have hc:Cx W0 w2 cb Ys v s:=⟨h.cx.cv,h0.cx.upd.trans' h.cx.upd,h0.cx.lt,h0.cx.own⟩
 refine⟨hc.keep (λk hk=>keep k (by omega) (by omega)) hU,?_,by simp⟩
 intro p hp
 simp at hp
 subst hp
 exact hBr
theorem Fo.gq:∀ (a c:Fo),(a.app c).len=a.len+c.len
 | .nil,c=>by simp[Fo.app,Fo.len]
 | .cons n ks r,c=>by
  show (r.app c).len+1=r.len+1+c.len
  rw[Fo.gq r c]
  omega
theorem Sx.len1(h:Sx W0 W cb Ys v s L M)(m:(b,fo) ∈ L):fo.len=1:=(bg.len (h.ts _ m)).symm
theorem Sx.all(h:Sx W0 W cb Ys v s L M):s.r.length<=Ys.length/\Ys.length<=1000002:=by
 obtain⟨i,t,c⟩:=h.cx.cv
 exact⟨by rw[c.at'];simp,c.all⟩
theorem rF{α:Type}{t:ByteArray}{k:Yd->Pm α}{r:Rs α}(hy:Tr.look s=.ok y)(ht:aG y.t=t)(h:(dw t).bind k s=some r):k y (behind y s)=some r:=by
 rcases bK h with⟨f,h1,_⟩|⟨z,h1,h2,_⟩|⟨z,h1,h2,h3⟩
 ·rw[hy] at h1;cases h1
 ·rw[hy] at h1;cases h1;exact absurd ht h2
 ·rw[hy] at h1;cases h1;exact h3
def U7(nd:Nd):Rs Fo->Rs Fo
 | .error f=>.error f
 | .ok (l,s)=>.ok (Fo.one nd l,s)
theorem BS{x:Pm Fo}{r:Rs Fo}(h:(x.bind λl=>Pm.pure (Fo.one nd l)) s=some r):∃rr,x s=some rr/\r=U7 nd rr:=by
 rcases aX h with⟨f,h1,rfl⟩|⟨l,s',h1,h2⟩
 ·exact⟨_,h1,rfl⟩
 ·rw[aQ h2]
  exact⟨_,h1,rfl⟩
def aA9(W0:World)(cb:Nat)(Ys:List Yd)(v:Value)(b:Nat)(r:Rs Fo)(e:Ending)(w':World):Prop:=match r with
 | .error f=>Err W0 cb f e w'
 | .ok (fo,s')=>e=.returned (ptr b)/\Sx W0 w' cb Ys v s' [(b,fo)] []
def Nh(g n:Nat):Prop:=∀W0 W cb Ys v s b nd ks r,ks.len<=1900000->Sx W0 W cb Ys v s [(b,Fo.one nd ks)] []->P n (.D6 nd ks) s=some r->Calls prog g #[ptr cb,ptr b] W (aA9 W0 cb Ys v b r)
theorem Sx.aA6(h:Sx W0 W cb Ys v s L M)(k:Int):Calls prog 28 #[.int .i64 k,.agg #[.int .i64 0,.int .i64 0,.string ⟨#[]⟩,.int .i64 0,.int .u64 0],.slice none 0 0] W λe w'=>∃b,e=.returned (ptr b)/\Sx W0 w' cb Ys v s ((b,Fo.one ⟨k,0,⟨#[]⟩,0,0⟩ .nil)::L) M:=h.NM k ⟨gX,0,0,0⟩
theorem KP(a:Int)(b c d e:Value)(w:World):(Instr.field 36 (.agg #[.int .i64 a,b,c,d,e]) 0).run prog w=.ok (.int .i64 a) w:=by kernel_rfl
theorem Du(a b:Value)(c:ByteArray)(d e:Value)(w:World):(Instr.field 36 (.agg #[a,b,.string c,d,e]) 2).run prog w=.ok (.string c) w:=by kernel_rfl
end
end Go.Proofs.YtgchnkgolclmgaaGreatDoor.W.Tr
