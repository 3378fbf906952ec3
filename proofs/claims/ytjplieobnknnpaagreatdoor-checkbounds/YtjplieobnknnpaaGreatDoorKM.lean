import Derived.Test.YtjplieobnknnpaaGreatDoorKL
import Derived.Test.YtjplieobnknnpaaGreatDoorJG
open List renaming mem_cons → z1z, mem_of_getElem? → z2z, nodup_cons → z8z, getElem?_eq_some_iff → z9z
open Array renaming getElem?_eq_some_iff → z0z
open Nat renaming le_refl → z5z, lt_of_lt_of_le → z7z
open Go.World renaming drew → z4z
open Go.RowKit.Below renaming refl → z3z, heap_setCell → z6z
open Go.Proofs.Tryz
open List renaming getElem_toArray → zx1, getElem_cons_zero → zx2, getElem_cons_succ → zx3, setIfInBounds_toArray → zx4, set_cons_zero → zx5, set_cons_succ → zx6
set_option maxRecDepth 1000000
set_option maxHeartbeats 8000000
namespace Go.Proofs.YtjplieobnknnpaaGreatDoor.W.Tr
open Go.ChangeShapes Go.WideShapes Go.RowKit Go.Shelf Go.ChangeMaps Ck
set_option linter.unusedVariables false
set_option linter.unusedSimpArgs false
theorem Hu{w w':World}{B:Nat}{t:TypeId}{k n:Nat}{v:Value}{xs:List Value}(h:w.ownsRow B t k v n xs)(hk:∀g,v.ownBlock=some g->w'.heap[g]? = w.heap[g]?):w'.ownsRow B t k v n xs:=by
 refine⟨h.1,?_⟩
 rcases h.2 with⟨h0,h1⟩|⟨g,cap,cur,rfl,h2,h3,h4,h5,h6,h7⟩
 ·exact .inl ⟨h0,h1⟩
 ·exact .inr ⟨g,cap,cur,rfl,h2,(hk g rfl).trans h3,h4,h5,h6,h7⟩
theorem Ba{w:World}{B:Nat}{t:TypeId}{k n:Nat}{v:Value}{xs:List Value}(h:w.ownsRow B t k v n xs){g:Nat}(e:v.ownBlock=some g):B<=g/\∃cur,w.heap[g]? = some (.cells cur t (0,0)):=by
 rcases h.2 with⟨rfl,h1⟩|⟨g',cap,cur,rfl,h2,h3,h4,h5,h6,h7⟩
 ·cases e
 ·cases e
  exact⟨h2,cur,h3⟩
def DX:Obj->Nat
 | .cells _ t _=>t+2
 | .map _ _=>1
 | _=>0
theorem Da{w:World}{j k:Nat}{o o':Obj}(h:w.heap[j]? = some o)(h':w.heap[k]? = some o')(ht:DX o≠DX o'):j≠k:=by
 rintro rfl
 rw[h] at h'
 cases h'
 exact ht rfl
def A9(w w':World):Prop:=∀ (k:Nat) (l:Array Value),w.heap[k]? = some (.cells l 26 (0,0))->w'.heap[k]? = some (.cells l 26 (0,0))
theorem A9.refl(w:World):A9 w w:=λk l h=>h
theorem A9.trans{a b c:World}(h:A9 a b)(g:A9 b c):A9 a c:=λk l e=>g k l (h k l e)
theorem A9.more{a b c:World}(h:A9 a b)(hB:Below b.heap.size b c):A9 a c:=λk l e=>(hB.block k (z0z.1 (h k l e)).1).trans (h k l e)
theorem A9.drew{a b:World}(h:A9 a b):A9 a b.drew:=h
theorem A9.upd{a b c:World}{X:Nat->Prop}(h:A9 a b)(hU:It.AL X b c)(hX:∀k,X k->∃o,b.heap[k]? = some o/\DX o≠26+2):A9 a c:=λk l e=>by
 have e1:=h k l e
 refine(hU.block k (z0z.1 e1).1 (λx=>?_)).trans e1
 obtain⟨o,h1,h2⟩:=hX k x
 exact Da h1 e1 h2 rfl
theorem A9.set{a b:World}(h:A9 a b){p:Nat}{o:Obj}(hp:b.heap[p]? = some o)(ht:DX o≠26+2)(j:Nat)(v:Value):A9 a (b.setCell ⟨p,j,none⟩ v):=λk l e=>by
 have e1:=h k l e
 exact(z6z _ _ _ _ (λx=>Da e1 hp ht.symm x)).trans e1
theorem Bz.obj{w:World}{b:Nat}{l:List (ByteArray × Nat)}(h:Bz w b l):∃es k,w.heap[b]? = some (.map es k):=by
 obtain⟨es,k,h1,_⟩:=h
 exact⟨es,k,h1⟩
theorem Ej.obj{w:World}{b:Nat}{l:List ((Nd × Nat) × Nat)}(h:Ej w b l):∃es k,w.heap[b]? = some (.map es k):=by
 obtain⟨es,k,h1,_⟩:=h
 exact⟨es,k,h1⟩
structure Pz (B:Nat) (w:World) (pb:Nat) (L:List (Nd × Nat)) (E:List Nat) (mr:Int) (pm:List (ByteArray × Nat)) (lv ev:Value) (mp mt mc:Nat) (ov sv pv:Value) (bs:List Nat) (c:Sc):Prop where
 pr:Pr w pb L E mr pm lv ev mp mt mc ov sv pv bs c B
 low:B<=pb
 rl:∀k,lv.ownBlock=some k->k<B
 el:∀k,ev.ownBlock=some k->k<B
 lows:∀b ∈ mp::mt::mc::bs,B<=b
 nd:(mp::mt::mc::bs).Nodup
section
variable {B:Nat} {w w':World} {pb:Nat} {L:List (Nd × Nat)} {E:List Nat} {mr:Int} {pm:List (ByteArray × Nat)} {lv ev:Value} {mp mt mc:Nat} {ov sv pv:Value} {bs:List Nat} {c:Sc}
theorem Pz.below(h:Pz B w pb L E mr pm lv ev mp mt mc ov sv pv bs c)(hB:Below w.heap.size w w'):Pz B w' pb L E mr pm lv ev mp mt mc ov sv pv bs c:=⟨h.pr.below hB,h.low,h.rl,h.el,h.lows,h.nd⟩
theorem Pz.row(h:Pz B w pb L E mr pm lv ev mp mt mc ov sv pv bs c)(hB:Below B w w'):Cw w' lv L:=by
 obtain⟨g,cap,rfl,hg,hl,hc⟩:=h.pr.row
 have:=h.rl g rfl
 exact⟨g,cap,rfl,z7z hg hB.size,hl,λi p hp j hj=>(hB.cell (p:=⟨g,_,none⟩) this).trans (hc i p hp j hj)⟩
theorem Pz.ends(h:Pz B w pb L E mr pm lv ev mp mt mc ov sv pv bs c)(hB:Below B w w'):Jo w' ev E:=by
 obtain⟨g,cap,rfl,hg,hc⟩:=h.pr.ends
 have:=h.el g rfl
 exact⟨g,cap,rfl,z7z hg hB.size,λi x hx=>(hB.cell (p:=⟨g,i,none⟩) this).trans (hc i x hx)⟩
theorem Pz.lt(h:Pz B w pb L E mr pm lv ev mp mt mc ov sv pv bs c):pb<w.heap.size:=(z0z.1 h.pr.blk).1
theorem Pz.size(h:Pz B w pb L E mr pm lv ev mp mt mc ov sv pv bs c):B<=w.heap.size:=Nat.le_trans h.low (Nat.le_of_lt h.lt)
theorem Pz.mobj(h:Pz B w pb L E mr pm lv ev mp mt mc ov sv pv bs c):∀b ∈ mp::mt::mc::bs,∃es k,w.heap[b]? = some (.map es k):=by
 intro b hb
 rcases z1z.1 hb with rfl|hb
 ·exact h.pr.par.obj
 rcases z1z.1 hb with rfl|hb
 ·exact h.pr.tak.obj
 rcases z1z.1 hb with rfl|hb
 ·exact h.pr.cst.obj
 obtain⟨i,hi⟩:=List.getElem?_of_mem hb
 have hil:=(z9z.1 hi).1
 have hcl:i<c.scs.length:=by have:=h.pr.blen;omega
 exact(h.pr.map i b _ hi (List.getElem?_eq_getElem hcl)).obj
theorem Pz.mlt(h:Pz B w pb L E mr pm lv ev mp mt mc ov sv pv bs c):∀b ∈ mp::mt::mc::bs,b<w.heap.size:=λb hb=>by
 obtain⟨es,k,h1⟩:=h.mobj b hb
 exact(z0z.1 h1).1
theorem VO{w:World}{B:Nat}{t:TypeId}{k n:Nat}{v:Value}{xs:List Value}(h:w.ownsRow B t k v n xs){g:Nat}(e:v.ownBlock=some g):g<w.heap.size:=by
 obtain⟨_,cur,h1⟩:=Ba h e
 exact(z0z.1 h1).1
theorem Pz.maps_on(h:Pz B w pb L E mr pm lv ev mp mt mc ov sv pv bs c){X:Nat->Prop}(hU:It.AL X w w')(hX:∀b ∈ mp::mt::mc::bs,¬X b):(∀ (i b:Nat) (l:List (ByteArray × Nat)),bs[i]? = some b->c.scs[i]? = some l->Bz w' b l)/\Bz w' mp pm/\Bz w' mt c.taken/\Ej w' mc c.cst:=by
 have key:∀b ∈ mp::mt::mc::bs,w'.heap[b]? = w.heap[b]?:=λb hb=>hU.block b (h.mlt b hb) (hX b hb)
 refine⟨λi b l hb hl=>(h.pr.map i b l hb hl).on (key b ?_),h.pr.par.on (key mp (by simp)),h.pr.tak.on (key mt (by simp)),h.pr.cst.on (key mc (by simp))⟩
 have:=z2z hb
 simp[this]
theorem Pz.newO(h:Pz B w pb L E mr pm lv ev mp mt mc ov sv pv bs c){ov':Value}{o':List (Nat × Nat × Nat)}(hU:It.AL (λk=>k=pb\/ov.ownBlock=some k) w w')(hb:w'.heap[pb]? = some (.cells (Ey lv ev mr mp mt ov' sv pv mc) 91 (0,0)))(ho:w'.ownsRow B 134 3 ov' o'.length (DZ o'.reverse))(hf:o'.length<=100000):Pz B w' pb L E mr pm lv ev mp mt mc ov' sv pv bs { c with opn:=o' }:=by
 have hX:∀k,(k=pb\/ov.ownBlock=some k)->B<=k:=by
  rintro k (rfl|e)
  ·exact h.low
  ·exact(Ba h.pr.opn e).1
 have hB:=hU.below h.size hX
 have sep:∀ (k:Nat) (o:Obj),w.heap[k]? = some o->DX o≠91+2->DX o≠134+2->w'.heap[k]? = w.heap[k]?:=by
  intro k o hk h1 h2
  refine hU.block k (z0z.1 hk).1 ?_
  rintro(e|e)
  ·exact Da hk h.pr.blk h1 e
  ·obtain⟨_,cur,h3⟩:=Ba h.pr.opn e
   exact Da hk h3 h2 rfl
 obtain⟨m1,m2,m3,m4⟩:=h.maps_on hU (λb hb=>by
  obtain⟨es,k,h1⟩:=h.mobj b hb
  rintro(e|e)
  ·exact Da h1 h.pr.blk (by simp[DX]) e
  ·obtain⟨_,cur,h3⟩:=Ba h.pr.opn e
   exact Da h1 h3 (by simp[DX]) rfl)
 refine⟨⟨hb,h.row hB,h.ends hB,h.pr.ok,ho,Hu h.pr.scs λg e=>?_,Hu h.pr.lps λg e=>?_,h.pr.blen,m1,m2,m3,m4,⟨hf,h.pr.few.2⟩,h.pr.some1⟩,h.low,h.rl,h.el,h.lows,h.nd⟩
 ·obtain⟨_,cur,h3⟩:=Ba h.pr.scs e
  exact sep g _ h3 (by show 83+2≠_;decide) (by show 83+2≠_;decide)
 ·obtain⟨_,cur,h3⟩:=Ba h.pr.lps e
  exact sep g _ h3 (by show 9+2≠_;decide) (by show 9+2≠_;decide)
theorem Pz.newL(h:Pz B w pb L E mr pm lv ev mp mt mc ov sv pv bs c){pv':Value}{l':List ByteArray}(hU:It.AL (λk=>k=pb\/pv.ownBlock=some k) w w')(hb:w'.heap[pb]? = some (.cells (Ey lv ev mr mp mt ov sv pv' mc) 91 (0,0)))(ho:GZ w' B pv' l'.reverse)(hf:l'.length<=100000):Pz B w' pb L E mr pm lv ev mp mt mc ov sv pv' bs { c with lps:=l' }:=by
 have hX:∀k,(k=pb\/pv.ownBlock=some k)->B<=k:=by
  rintro k (rfl|e)
  ·exact h.low
  ·exact(Ba h.pr.lps e).1
 have hB:=hU.below h.size hX
 have sep:∀ (k:Nat) (o:Obj),w.heap[k]? = some o->DX o≠91+2->DX o≠9+2->w'.heap[k]? = w.heap[k]?:=by
  intro k o hk h1 h2
  refine hU.block k (z0z.1 hk).1 ?_
  rintro(e|e)
  ·exact Da hk h.pr.blk h1 e
  ·obtain⟨_,cur,h3⟩:=Ba h.pr.lps e
   exact Da hk h3 h2 rfl
 obtain⟨m1,m2,m3,m4⟩:=h.maps_on hU (λb hb=>by
  obtain⟨es,k,h1⟩:=h.mobj b hb
  rintro(e|e)
  ·exact Da h1 h.pr.blk (by simp[DX]) e
  ·obtain⟨_,cur,h3⟩:=Ba h.pr.lps e
   exact Da h1 h3 (by simp[DX]) rfl)
 refine⟨⟨hb,h.row hB,h.ends hB,h.pr.ok,Hu h.pr.opn λg e=>?_,Hu h.pr.scs λg e=>?_,ho,h.pr.blen,m1,m2,m3,m4,⟨h.pr.few.1,h.pr.few.2.1,hf⟩,h.pr.some1⟩,h.low,h.rl,h.el,h.lows,h.nd⟩
 ·obtain⟨_,cur,h3⟩:=Ba h.pr.opn e
  exact sep g _ h3 (by show 134+2≠_;decide) (by show 134+2≠_;decide)
 ·obtain⟨_,cur,h3⟩:=Ba h.pr.scs e
  exact sep g _ h3 (by show 83+2≠_;decide) (by show 83+2≠_;decide)
theorem Pz.newS(h:Pz B w pb L E mr pm lv ev mp mt mc ov sv pv bs c){sv':Value}{bs':List Nat}{s':List (List (ByteArray × Nat))}(hU:It.AL (λk=>k=pb\/sv.ownBlock=some k) w w')(hb:w'.heap[pb]? = some (.cells (Ey lv ev mr mp mt ov sv' pv mc) 91 (0,0)))(ho:w'.ownsRow B 83 1 sv' s'.length (bs'.reverse.map λb=>Value.map (some b)))(hbl:bs'.length=s'.length)(hm:∀ (i b:Nat) (l:List (ByteArray × Nat)),bs'[i]? = some b->s'[i]? = some l->(∃j:Nat,bs[j]? = some b/\c.scs[j]? = some l)\/Bz w' b l)(hlo:∀b ∈ bs',B<=b)(hnd:(mp::mt::mc::bs').Nodup)(hf:s'.length<=200000)(h1:0<s'.length):Pz B w' pb L E mr pm lv ev mp mt mc ov sv' pv bs' { c with scs:=s' }:=by
 have hX:∀k,(k=pb\/sv.ownBlock=some k)->B<=k:=by
  rintro k (rfl|e)
  ·exact h.low
  ·exact(Ba h.pr.scs e).1
 have hB:=hU.below h.size hX
 have sep:∀ (k:Nat) (o:Obj),w.heap[k]? = some o->DX o≠91+2->DX o≠83+2->w'.heap[k]? = w.heap[k]?:=by
  intro k o hk h1 h2
  refine hU.block k (z0z.1 hk).1 ?_
  rintro(e|e)
  ·exact Da hk h.pr.blk h1 e
  ·obtain⟨_,cur,h3⟩:=Ba h.pr.scs e
   exact Da hk h3 h2 rfl
 obtain⟨m1,m2,m3,m4⟩:=h.maps_on hU (λb hb=>by
  obtain⟨es,k,h1⟩:=h.mobj b hb
  rintro(e|e)
  ·exact Da h1 h.pr.blk (by simp[DX]) e
  ·obtain⟨_,cur,h3⟩:=Ba h.pr.scs e
   exact Da h1 h3 (by simp[DX]) rfl)
 refine⟨⟨hb,h.row hB,h.ends hB,h.pr.ok,Hu h.pr.opn λg e=>?_,ho,Hu h.pr.lps λg e=>?_,hbl,λi b l hb hl=>?_,m2,m3,m4,⟨h.pr.few.1,hf,h.pr.few.2.2⟩,h1⟩,h.low,h.rl,h.el,λb hb=>?_,hnd⟩
 ·obtain⟨_,cur,h3⟩:=Ba h.pr.opn e
  exact sep g _ h3 (by show 134+2≠_;decide) (by show 134+2≠_;decide)
 ·obtain⟨_,cur,h3⟩:=Ba h.pr.lps e
  exact sep g _ h3 (by show 9+2≠_;decide) (by show 9+2≠_;decide)
 ·rcases hm i b l hb hl with⟨j,e1,e2⟩|e
  ·exact m1 j b l e1 e2
  ·exact e
 ·rcases z1z.1 hb with rfl|hb
  ·exact h.lows _ (by simp)
  rcases z1z.1 hb with rfl|hb
  ·exact h.lows _ (by simp)
  rcases z1z.1 hb with rfl|hb
  ·exact h.lows _ (by simp)
  exact hlo b hb
theorem Pz.rows_on(h:Pz B w pb L E mr pm lv ev mp mt mc ov sv pv bs c){m:Nat}(hm:m ∈ mp::mt::mc::bs)(hU:It.AL (λk=>k=m) w w'):w'.heap[pb]? = some (.cells (Ey lv ev mr mp mt ov sv pv mc) 91 (0,0))/\Cw w' lv L/\Jo w' ev E/\w'.ownsRow B 134 3 ov c.opn.length (DZ c.opn.reverse)/\w'.ownsRow B 83 1 sv c.scs.length (bs.reverse.map λb=>Value.map (some b))/\GZ w' B pv c.lps.reverse/\∀b ∈ mp::mt::mc::bs,b≠m->w'.heap[b]? = w.heap[b]?:=by
 obtain⟨es,ck,hmo⟩:=h.mobj m hm
 have hB:=hU.below h.size (λk e=>by subst e;exact h.lows _ hm)
 have sep:∀ (k:Nat) (o:Obj),w.heap[k]? = some o->DX o≠1->w'.heap[k]? = w.heap[k]?:=by
  intro k o hk h1
  refine hU.block k (z0z.1 hk).1 (λe=>?_)
  exact Da hk hmo h1 e
 refine⟨(sep pb _ h.pr.blk (by show 91+2≠_;decide)).trans h.pr.blk,h.row hB,h.ends hB,Hu h.pr.opn λg e=>?_,Hu h.pr.scs λg e=>?_,Hu h.pr.lps λg e=>?_,λb hb hne=>hU.block b (h.mlt b hb) hne⟩
 ·obtain⟨_,cur,h3⟩:=Ba h.pr.opn e
  exact sep g _ h3 (by show 134+2≠_;decide)
 ·obtain⟨_,cur,h3⟩:=Ba h.pr.scs e
  exact sep g _ h3 (by show 83+2≠_;decide)
 ·obtain⟨_,cur,h3⟩:=Ba h.pr.lps e
  exact sep g _ h3 (by show 9+2≠_;decide)
theorem Pz.putT(h:Pz B w pb L E mr pm lv ev mp mt mc ov sv pv bs c){t':List (ByteArray × Nat)}(hU:It.AL (λk=>k=mt) w w')(hm:Bz w' mt t'):Pz B w' pb L E mr pm lv ev mp mt mc ov sv pv bs { c with taken:=t' }:=by
 obtain⟨r1,r2,r3,r4,r5,r6,r7⟩:=h.rows_on (m:=mt) (by simp) hU
 have nd:=h.nd
 simp only[z8z,z1z,not_or] at nd
 refine⟨⟨r1,r2,r3,h.pr.ok,r4,r5,r6,h.pr.blen,λi b l hb hl=>(h.pr.map i b l hb hl).on (r7 b ?_ ?_),h.pr.par.on (r7 mp (by simp) nd.1.1),hm,h.pr.cst.on (r7 mc (by simp) (λe=>nd.2.1.1 e.symm)),h.pr.few,h.pr.some1⟩,h.low,h.rl,h.el,h.lows,h.nd⟩
 ·simp[z2z hb]
 ·rintro rfl
  exact nd.2.1.2 (z2z hb)
theorem Pz.putC(h:Pz B w pb L E mr pm lv ev mp mt mc ov sv pv bs c){t':List ((Nd × Nat) × Nat)}(hU:It.AL (λk=>k=mc) w w')(hm:Ej w' mc t'):Pz B w' pb L E mr pm lv ev mp mt mc ov sv pv bs { c with cst:=t' }:=by
 obtain⟨r1,r2,r3,r4,r5,r6,r7⟩:=h.rows_on (m:=mc) (by simp) hU
 have nd:=h.nd
 simp only[z8z,z1z,not_or] at nd
 refine⟨⟨r1,r2,r3,h.pr.ok,r4,r5,r6,h.pr.blen,λi b l hb hl=>(h.pr.map i b l hb hl).on (r7 b ?_ ?_),h.pr.par.on (r7 mp (by simp) nd.1.2.1),h.pr.tak.on (r7 mt (by simp) nd.2.1.1),hm,h.pr.few,h.pr.some1⟩,h.low,h.rl,h.el,h.lows,h.nd⟩
 ·simp[z2z hb]
 ·rintro rfl
  exact nd.2.2.1 (z2z hb)
theorem Pz.putS(h:Pz B w pb L E mr pm lv ev mp mt mc ov sv pv bs c){b0:Nat}{br:List Nat}{l0 l':List (ByteArray × Nat)}{lr:List (List (ByteArray × Nat))}(hbs:bs=b0::br)(hcs:c.scs=l0::lr)(hU:It.AL (λk=>k=b0) w w')(hm:Bz w' b0 l'):Pz B w' pb L E mr pm lv ev mp mt mc ov sv pv bs { c with scs:=l'::lr }:=by
 obtain⟨r1,r2,r3,r4,r5,r6,r7⟩:=h.rows_on (m:=b0) (by rw[hbs];simp) hU
 have nd:=h.nd
 rw[hbs] at nd
 simp only[z8z,z1z,not_or] at nd
 have hl:(l'::lr).length=c.scs.length:=by rw[hcs];rfl
 refine⟨⟨r1,r2,r3,h.pr.ok,r4,by rw[hl];exact r5,r6,by rw[hl];exact h.pr.blen,λi b l hb hl=>?_,h.pr.par.on (r7 mp (by simp) nd.1.2.2.1),h.pr.tak.on (r7 mt (by simp) nd.2.1.2.1),h.pr.cst.on (r7 mc (by simp) nd.2.2.1.1),by rw[hl];exact h.pr.few,by simp⟩,h.low,h.rl,h.el,h.lows,h.nd⟩
 cases i with
 | zero=>
  rw[hbs] at hb
  simp at hb hl
  subst hb hl
  exact hm
 | succ i=>
  rw[hbs] at hb
  simp at hb hl
  refine(h.pr.map (i+1) b l (by rw[hbs];simpa using hb) (by rw[hcs];simpa using hl)).on (r7 b ?_ ?_)
  ·rw[hbs];simp[z2z hb]
  ·rintro rfl
   exact nd.2.2.2.1 (z2z hb)
end
theorem Io{W:World}{b:Nat}{c:List Value}{t:TypeId}(h:W.heap[b]? = some (.cells c.toArray t (0,0)))(j:Nat)(u:Value):(W.setCell ⟨b,j,none⟩ u).heap[b]? = some (.cells (c.set j u).toArray t (0,0)):=by
 simp only[World.setCell,Array.getElem?_modify]
 rw[h]
 simp
theorem thaw{w:World}{b:Nat}{l:Array Value}{t:TypeId}(h:w.heap[b]? = some (.cells l t (0,0)))(j:Nat):w.frozen? ⟨b,j,none⟩=false:=by
 simp[World.frozen?,h]
theorem Yq{W:World}{pb:Nat}{lv ev:Value}{mr:Int}{mp mt:Nat}{ov sv pv:Value}{mc:Nat}(h:W.heap[pb]? = some (.cells (Ey lv ev mr mp mt ov sv pv mc) 91 (0,0)))(u:Value):(W.setCell ⟨pb,5,none⟩ u).heap[pb]? = some (.cells (Ey lv ev mr mp mt u sv pv mc) 91 (0,0)):=Io (c:=[lv,ev,.int .i64 mr,.map (some mp),.map (some mt),ov,sv,pv,.map (some mc)]) h 5 u
theorem dX{W:World}{pb:Nat}{lv ev:Value}{mr:Int}{mp mt:Nat}{ov sv pv:Value}{mc:Nat}(h:W.heap[pb]? = some (.cells (Ey lv ev mr mp mt ov sv pv mc) 91 (0,0)))(u:Value):(W.setCell ⟨pb,6,none⟩ u).heap[pb]? = some (.cells (Ey lv ev mr mp mt ov u pv mc) 91 (0,0)):=Io (c:=[lv,ev,.int .i64 mr,.map (some mp),.map (some mt),ov,sv,pv,.map (some mc)]) h 6 u
theorem Ym{W:World}{pb:Nat}{lv ev:Value}{mr:Int}{mp mt:Nat}{ov sv pv:Value}{mc:Nat}(h:W.heap[pb]? = some (.cells (Ey lv ev mr mp mt ov sv pv mc) 91 (0,0)))(u:Value):(W.setCell ⟨pb,7,none⟩ u).heap[pb]? = some (.cells (Ey lv ev mr mp mt ov sv u mc) 91 (0,0)):=Io (c:=[lv,ev,.int .i64 mr,.map (some mp),.map (some mt),ov,sv,pv,.map (some mc)]) h 7 u
theorem VX{W:World}{B:Nat}{e:TypeId}{size g n cap:Nat}{xs:List Value}(h:W.ownsRow B e size (.slice (some ⟨g,0,none⟩) n cap) n xs)(k:Nat)(hk:k<=n):W.ownsRow B e size (.slice (some ⟨g,0,none⟩) k cap) k (xs.take (k*size)):=by
 rcases h.2 with⟨h0,_⟩|⟨g',cap',cur,h0,h2,h3,h4,h5,h6,h7⟩
 ·cases h0
 ·simp only[Value.slice.injEq,Option.some.injEq,Addr.mk.injEq,true_and,and_true] at h0
  obtain⟨rfl,rfl⟩:=h0
  refine⟨?_,.inr ⟨g,cap,cur,rfl,h2,h3,by omega,h5,h6,?_⟩⟩
  ·rw[List.length_take,h.1]
   exact Nat.min_eq_left (Nat.mul_le_mul_right _ hk)
  ·rw[<- h7,List.take_take,Nat.min_eq_left (Nat.mul_le_mul_right _ hk)]
theorem X9{α:Type}(l:List α)(k:Nat)(hk:k<=l.length):(l.drop (l.length-k)).reverse=l.reverse.take k:=by
 rw[List.reverse_drop]
 congr 1
 omega
section
variable {B:Nat} {w w':World} {pb:Nat} {L:List (Nd × Nat)} {E:List Nat} {mr:Int} {pm:List (ByteArray × Nat)} {lv ev:Value} {mp mt mc:Nat} {ov sv pv:Value} {bs:List Nat} {c:Sc}
theorem Ua{w:World}{pb:Nat}(hp:pb<w.heap.size)(X:Nat->Prop)(j:Nat)(u:Value):It.AL (λk=>k=pb\/X k) w (w.setCell ⟨pb,j,none⟩ u):=(It.AL.refl _ w).setCell (p:=⟨pb,j,none⟩) (.inl (.inl rfl)) u
theorem Mi{w:World}{pb j:Nat}{u:Value}{B:Nat}{t:TypeId}{k n:Nat}{v:Value}{xs:List Value}(h:w.ownsRow B t k v n xs)(hn:v.ownBlock≠some pb):(w.setCell ⟨pb,j,none⟩ u).ownsRow B t k v n xs:=Hu h λg e=>z6z _ _ _ _ (by rintro rfl;exact hn e)
theorem Pz.ne5(h:Pz B w pb L E mr pm lv ev mp mt mc ov sv pv bs c):ov.ownBlock≠some pb:=by
 intro e
 obtain⟨_,cur,h3⟩:=Ba h.pr.opn e
 exact Da h3 h.pr.blk (by simp[DX]) rfl
theorem Pz.ne6(h:Pz B w pb L E mr pm lv ev mp mt mc ov sv pv bs c):sv.ownBlock≠some pb:=by
 intro e
 obtain⟨_,cur,h3⟩:=Ba h.pr.scs e
 exact Da h3 h.pr.blk (by simp[DX]) rfl
theorem Pz.ne7(h:Pz B w pb L E mr pm lv ev mp mt mc ov sv pv bs c):pv.ownBlock≠some pb:=by
 intro e
 obtain⟨_,cur,h3⟩:=Ba h.pr.lps e
 exact Da h3 h.pr.blk (by simp[DX]) rfl
theorem Pz.popO{g cap:Nat}(h:Pz B w pb L E mr pm lv ev mp mt mc ov sv pv bs c){o:Nat × Nat × Nat}{r:List (Nat × Nat × Nat)}(ho:c.opn=o::r)(hv:ov=.slice (some ⟨g,0,none⟩) (r.length+1) cap):Pz B (w.setCell ⟨pb,5,none⟩ (.slice (some ⟨g,0,none⟩) r.length cap)) pb L E mr pm lv ev mp mt mc (.slice (some ⟨g,0,none⟩) r.length cap) sv pv bs { c with opn:=r }:=by
 subst hv
 have hl:c.opn.length=r.length+1:=by rw[ho];rfl
 have h1:=h.pr.opn
 rw[hl] at h1
 have h2:=VX h1 r.length (by omega)
 have e:(DZ c.opn.reverse).take (r.length*3)=DZ r.reverse:=by
  rw[ho,List.reverse_cons,Nl,List.take_append_of_le_length (by rw[Qm];simp;omega),List.take_of_length_le (by rw[Qm];simp;omega)]
 rw[e] at h2
 exact h.newO (Ua h.lt _ 5 _) (Yq h.pr.blk _) (Mi h2 h.ne5) (by have:=h.pr.few;omega)
theorem Pz.dropL{go:Option Addr}{cap:Nat}(h:Pz B w pb L E mr pm lv ev mp mt mc ov sv pv bs c)(hv:pv=.slice go c.lps.length cap)(k:Nat)(hk:k<=c.lps.length):Pz B (w.setCell ⟨pb,7,none⟩ (.slice go k cap)) pb L E mr pm lv ev mp mt mc ov sv (.slice go k cap) bs { c with lps:=c.lps.drop (c.lps.length-k) }:=by
 subst hv
 have h1:=h.pr.lps
 have hn:=h.ne7
 have hd:(c.lps.drop (c.lps.length-k)).length=k:=by simp;omega
 refine h.newL (Ua h.lt _ 7 _) (Ym h.pr.blk _) ?_ (by rw[hd];have:=h.pr.few;omega)
 have key:w.ownsRow B 9 1 (.slice go k cap) k ((c.lps.reverse.map Value.string).take k):=by
  have hl:c.lps.reverse.length=c.lps.length:=by simp
  unfold GZ at h1
  rw[hl] at h1
  rcases h1.2 with⟨h0,e0⟩|⟨g,cap',cur,h0,_⟩
  ·simp only[Value.slice.injEq] at h0
   obtain⟨rfl,hz,rfl⟩:=h0
   have:k=0:=by omega
   subst this
   exact⟨by simp,.inl ⟨rfl,rfl⟩⟩
  ·simp only[Value.slice.injEq] at h0
   obtain⟨rfl,_,rfl⟩:=h0
   have:=VX h1 k hk
   rwa [Nat.mul_one] at this
 have e:(c.lps.drop (c.lps.length-k)).reverse.map Value.string=(c.lps.reverse.map Value.string).take k:=by rw[X9 _ _ hk,List.map_take]
 show (w.setCell _ _).ownsRow B 9 1 _ (c.lps.drop (c.lps.length-k)).reverse.length _
 rw[List.length_reverse,hd,e]
 exact Mi key (by cases go <;> exact hn)
theorem uR{a b d:Nat}{bs:List Nat}(h:(a::b::d::bs).Nodup)(n:Nat):(a::b::d::bs.drop n).Nodup:=by
 have hs:(bs.drop n).Sublist bs:=List.drop_sublist _ _
 exact((((hs.cons_cons d).cons_cons b).cons_cons a)).nodup h
theorem Pz.dropS{g cap:Nat}(h:Pz B w pb L E mr pm lv ev mp mt mc ov sv pv bs c)(hv:sv=.slice (some ⟨g,0,none⟩) c.scs.length cap)(k:Nat)(hk:k<=c.scs.length)(h0:0<k):Pz B (w.setCell ⟨pb,6,none⟩ (.slice (some ⟨g,0,none⟩) k cap)) pb L E mr pm lv ev mp mt mc ov (.slice (some ⟨g,0,none⟩) k cap) pv (bs.drop (c.scs.length-k)) { c with scs:=c.scs.drop (c.scs.length-k) }:=by
 subst hv
 have hbl:=h.pr.blen
 have hd:(c.scs.drop (c.scs.length-k)).length=k:=by simp;omega
 have h1:=VX h.pr.scs k hk
 rw[Nat.mul_one] at h1
 have e:(bs.drop (c.scs.length-k)).reverse.map (λb=>Value.map (some b))=(bs.reverse.map λb=>Value.map (some b)).take k:=by rw[<- hbl,X9 _ _ (by omega),List.map_take]
 refine h.newS (Ua h.lt _ 6 _) (dX h.pr.blk _) ?_ (by simp;omega) (λi b l hb hl=>.inl ⟨c.scs.length-k+i,?_,?_⟩) (λb hb=>h.lows b (by simp[List.mem_of_mem_drop hb])) (uR h.nd _) (by rw[hd];have:=h.pr.few;omega) (by rw[hd];exact h0)
 ·rw[hd,e]
  exact Mi h1 h.ne6
 ·rwa [List.getElem?_drop] at hb
 ·rwa [List.getElem?_drop] at hl
end
theorem ig(pl:Option Addr)(n cl k:Nat)(hk:((k:Nat):Int)<=cl)(w:World):(Instr.slice 89 (.slice pl n cl) none (some (.int .i64 (k:Nat))) none).run prog w=.ok (.slice pl k cl) w:=by
 have h0:(0:Int)<=(k:Nat):=by omega
 cases pl with
 | none=>go_simp
 | some a=>
  obtain⟨b,o,sp⟩:=a
  go_simp
section
variable {B:Nat} {w w':World} {pb:Nat} {L:List (Nd × Nat)} {E:List Nat} {mr:Int} {pm:List (ByteArray × Nat)} {lv ev:Value} {mp mt mc:Nat} {ov sv pv:Value} {bs:List Nat} {c:Sc}
theorem Pz.drew(h:Pz B w pb L E mr pm lv ev mp mt mc ov sv pv bs c):Pz B w.drew pb L E mr pm lv ev mp mt mc ov sv pv bs c:=h.below ((z3z _ w).drew)
structure Lb (w:World) (pb lb:Nat) (o:Nat × Nat × Nat):Prop where
 c0:w.cell? ⟨lb,0,none⟩=some (.int .i64 (o.1:Nat))
 c1:w.cell? ⟨lb,1,none⟩=some (.int .i64 (o.2.1:Nat))
 c2:w.cell? ⟨lb,2,none⟩=some (.int .i64 (o.2.2:Nat))
 lt:lb<w.heap.size
 ne:lb≠pb
theorem Lb.below{lb:Nat}{o:Nat × Nat × Nat}(h:Lb w pb lb o)(hB:Below w.heap.size w w'):Lb w' pb lb o:=
 ⟨(hB.cell (p:=⟨lb,0,none⟩) h.lt).trans h.c0,(hB.cell (p:=⟨lb,1,none⟩) h.lt).trans h.c1,(hB.cell (p:=⟨lb,2,none⟩) h.lt).trans h.c2,z7z h.lt hB.size,h.ne⟩
theorem Lb.upd{lb:Nat}{o:Nat × Nat × Nat}(h:Lb w pb lb o)(j:Nat)(u:Value):Lb (w.setCell ⟨pb,j,none⟩ u).drew pb lb o:=by
 have key:∀i,(w.setCell ⟨pb,j,none⟩ u).drew.cell? ⟨lb,i,none⟩=w.cell? ⟨lb,i,none⟩:=λi=>by
  have:(w.setCell ⟨pb,j,none⟩ u).drew.heap[lb]? = w.heap[lb]?:=z6z _ _ _ _ h.ne
  simp only[World.cell?,this]
 exact⟨(key 0).trans h.c0,(key 1).trans h.c1,(key 2).trans h.c2,by simpa [World.setCell] using h.lt,h.ne⟩
theorem AB8(h:Pz B w pb L E mr pm lv ev mp mt mc ov sv pv bs c){o:Nat × Nat × Nat}{r:List (Nat × Nat × Nat)}(ho:c.opn=o::r)(hs0:0<o.2.1)(hs1:o.2.1<=c.scs.length)(hl1:o.2.2<=c.lps.length){n:Nd}{kids:Nat}(hn:L[o.1]? = some (n,kids)){c':Sc}(hc':EH L c=some c') :
  Calls prog 42 #[.pointer (some ⟨pb,0,none⟩)] w λe w'=>e=.returned (.int .i64 (o.1:Nat))/\Below B w w'/\A9 w w'/\∃ov' sv' pv' bs',Pz B w' pb L E mr pm lv ev mp mt mc ov' sv' pv' bs' c':=by
 obtain⟨g,cap,rfl,hc,hg,d0,d1,d2⟩:=h.pr.top ho
 have p5:=AU h.pr.blk 5
 change _=some (Value.slice (some ⟨g,0,none⟩) (r.length+1) cap) at p5
 have hrl:r.length<=100000:=by have:=h.pr.few;rw[ho] at this;simp at this;omega
 have o1:IntKind.i64.wrap (((r.length+1:Nat):Int)-1)=r.length:=by rw[IntKind.wrap_i64];omega
 have o2:(0:Int)<=r.length:=by omega
 have o3:(r.length:Int)<((r.length+1:Nat):Int):=by omega
 have o7:(r.length:Int)<=cap:=by omega
 have o8:wrap64 ((r.length:Nat):Int)=r.length:=by unfold wrap64;omega
 have o9:IntKind.i64.wrap ((r.length:Nat):Int)=r.length:=by rw[IntKind.wrap_i64];omega
 have hbA:Below w.heap.size w (w.alloc (.cells #[.int .i64 0,.int .i64 0,.int .i64 0] 134)):=(z3z _ w).alloc (z5z _) _
 have q5:=(hbA.cell (p:=⟨pb,5,none⟩) h.lt).trans p5
 have e0:=(hbA.cell (p:=⟨g,r.length*3,none⟩) hg).trans d0
 have e1:=(hbA.cell (p:=⟨g,r.length*3+1,none⟩) hg).trans d1
 have e2:=(hbA.cell (p:=⟨g,r.length*3+2,none⟩) hg).trans d2
 have H:=hid h
 have HO:=hid ho
 have HS:=hid hc'
 have HN:=hid hn
 have HL:=hid (And.intro hs0 (And.intro hs1 hl1))
 have hlt:=h.lt
 have hsz:=h.size
 clear h hbA ho hc' hn hs0 hs1 hl1
 go_enter func42,ntmps42
 go_upto_region 1 with fail
 go_region
 have b1:Below w.heap.size w (w.alloc (.cells #[.int .i64 (o.1:Nat),.int .i64 (o.2.1:Nat),.int .i64 (o.2.2:Nat)] 134)).drew:=((z3z _ w).alloc (z5z _) _).drew
 have nb:=World.cell?_alloc_new w #[.int .i64 (o.1:Nat),.int .i64 (o.2.1:Nat),.int .i64 (o.2.2:Nat)] 134
 have l1:Lb (w.alloc (.cells #[.int .i64 (o.1:Nat),.int .i64 (o.2.1:Nat),.int .i64 (o.2.2:Nat)] 134)).drew pb w.heap.size o:=⟨nb 0,nb 1,nb 2,by simp,by omega⟩
 have h1:=H.out.below b1
 have HB:=hid (b1.mono hsz)
 have K1:=hid ((A9.refl w).more b1)
 clear e0 e1 e2 q5 d0 d1 d2 p5 nb b1 H hg
 generalize z4z _=W1 at *
 generalize w.heap.size=lb at *
 have p5:=AU h1.pr.blk 5
 change _=some (Value.slice (some ⟨g,0,none⟩) (r.length+1) cap) at p5
 have z5:=thaw h1.pr.blk 5
 have h2:=(h1.popO HO.out rfl).drew
 have l2:=l1.upd 5 (.slice (some ⟨g,0,none⟩) r.length cap)
 have b2:Below B w (W1.setCell ⟨pb,5,none⟩ (.slice (some ⟨g,0,none⟩) r.length cap)).drew:=(HB.out.setCell (p:=⟨pb,5,none⟩) h1.low _).drew
 have H2:=hid h2
 have L2:=hid l2
 have HB2:=hid b2
 have K2:=hid ((K1.out.set h1.pr.blk (by show 91+2≠_;decide) 5 (.slice (some ⟨g,0,none⟩) r.length cap)).drew)
 clear h1 l1 HB b2 h2 l2 K1
 go_upto_region 2 with fail
 go_region
 clear p5 z5
 generalize z4z _=W2 at *
 have h2:=H2.out
 have l2:=L2.out
 obtain⟨gs,cs,hsv,hcs⟩:∃gs cs,sv=.slice (some ⟨gs,0,none⟩) c.scs.length cs/\c.scs.length<=cs:=by
  have:=h2.pr.some1
  rcases h2.pr.scs.2 with⟨_,e0⟩|⟨g',cap',cur,e,_,_,h4,_⟩
  ·simp only at this e0;omega
  ·exact⟨g',cap',e,h4⟩
 obtain⟨hs0,hs1,hl1⟩:=HL.out
 have p6:=AU h2.pr.blk 6
 change _=some sv at p6
 rw[hsv] at p6
 have z6:=thaw h2.pr.blk 6
 have k1:=l2.c1
 have n1:(0:Int)<=(o.2.1:Nat):=by omega
 have n2:((o.2.1:Nat):Int)<=cs:=by omega
 have h3:=(h2.dropS hsv o.2.1 hs1 hs0).drew
 have l3:=l2.upd 6 (.slice (some ⟨gs,0,none⟩) o.2.1 cs)
 have b3:Below B w (W2.setCell ⟨pb,6,none⟩ (.slice (some ⟨gs,0,none⟩) o.2.1 cs)).drew:=(HB2.out.setCell (p:=⟨pb,6,none⟩) h2.low _).drew
 have H3:=hid h3
 have L3:=hid l3
 have HB3:=hid b3
 have K3:=hid ((K2.out.set h2.pr.blk (by show 91+2≠_;decide) 6 (.slice (some ⟨gs,0,none⟩) o.2.1 cs)).drew)
 clear K2 h2 l2 HB2 b3 h3 l3 H2 L2 o1 o2 o3 o7 o8 o9 hc hrl hs0 hs1
 go_upto_region 3 with fail
 go_region
 clear p6 z6 k1 n1 n2
 generalize z4z _=W3 at *
 have h3:=H3.out
 have l3:=L3.out
 obtain⟨pl,cl,hpv,hcl,hno⟩:∃ (pl:Option Addr) (cl:Nat),pv=.slice pl c.lps.length cl/\c.lps.length<=cl/\((∃g0,pl=some ⟨g0,0,none⟩)\/pl=none/\c.lps.length=0/\cl=0):=by
  have hl:c.lps.reverse.length=c.lps.length:=by simp
  have h9:=h3.pr.lps
  simp only at h9
  unfold GZ at h9
  rw[hl] at h9
  rcases h9.2 with⟨e,e0⟩|⟨g',cap',cur,e,_,_,h4,_⟩
  ·exact⟨none,0,by rw[e,e0],by omega,.inr ⟨rfl,e0,rfl⟩⟩
  ·exact⟨_,cap',e,h4,.inl ⟨g',rfl⟩⟩
 have p7:=AU h3.pr.blk 7
 change _=some pv at p7
 rw[hpv] at p7
 have z7:=thaw h3.pr.blk 7
 have k2:=l3.c2
 have n1:(0:Int)<=(o.2.2:Nat):=by omega
 have n2:((o.2.2:Nat):Int)<=cl:=by omega
 have h4:=(h3.dropL hpv o.2.2 hl1).drew
 have l4:=l3.upd 7 (.slice pl o.2.2 cl)
 have b4:Below B w (W3.setCell ⟨pb,7,none⟩ (.slice pl o.2.2 cl)).drew:=(HB3.out.setCell (p:=⟨pb,7,none⟩) h3.low _).drew
 have H4:=hid h4
 have L4:=hid l4
 have HB4:=hid b4
 have K4:=hid ((K3.out.set h3.pr.blk (by show 91+2≠_;decide) 7 (.slice pl o.2.2 cl)).drew)
 have HL1:=hid hl1
 clear K3 h3 l3 HB3 b4 h4 l4 H3 L3 hcl hl1 hsv hcs hpv
 have hsl:=ig pl c.lps.length cl o.2.2 n2
 clear hno HL1
 have HOL:Hid (o.2.2=o.2.2):=hid rfl
 go_upto_region 4 with fail
 go_region
 clear p7 z7 k2 n1 n2
 generalize z4z _=W4 at *
 have h4:=H4.out
 have l4:=L4.out
 have hn:=HN.out
 obtain⟨gl,lc,hlv,hgl,hLl,_⟩:=id h4.pr.row
 have hrow:=h4.pr.row
 rw[hlv] at hrow
 obtain⟨c0,c1,c2,c3,c4,c5⟩:=hrow.at hn
 simp only at c0 c1 c2 c3 c4 c5
 have p0:=AU h4.pr.blk 0
 change _=some lv at p0
 rw[hlv] at p0
 have k0:=l4.c0
 have hal:=(z9z.1 hn).1
 have m1:(0:Int)<=(o.1:Nat):=by omega
 have m2:((o.1:Nat):Int)<L.length:=by omega
 have bz:Below W4.heap.size W4 (W4.alloc (.cells #[.int .i64 0,.int .i64 0,.int .i64 0,.string ⟨#[]⟩,.int .i64 0,.int .u64 0] 48)):=(z3z _ W4).alloc (z5z _) _
 have d0:=(bz.cell (p:=⟨gl,o.1*6,none⟩) hgl).trans c0
 have d1:=(bz.cell (p:=⟨gl,o.1*6+1,none⟩) hgl).trans c1
 have d2:=(bz.cell (p:=⟨gl,o.1*6+2,none⟩) hgl).trans c2
 have d3:=(bz.cell (p:=⟨gl,o.1*6+3,none⟩) hgl).trans c3
 have d4:=(bz.cell (p:=⟨gl,o.1*6+4,none⟩) hgl).trans c4
 have d5:=(bz.cell (p:=⟨gl,o.1*6+5,none⟩) hgl).trans c5
 have q0:=(bz.cell (p:=⟨pb,0,none⟩) h4.lt).trans p0
 have j0:=(bz.cell (p:=⟨lb,0,none⟩) l4.lt).trans k0
 clear h4 l4 hlv hgl hLl hrow hn hal bz
 generalize L.length=ln at *
 go_upto_region 5 with fail
 go_region
 have b5:Below W4.heap.size W4 (W4.alloc (Ab n kids)).drew:=((z3z _ W4).alloc (z5z _) _).drew
 have nb:=World.cell?_alloc_new W4 #[.int .i64 n.kind,.int .i64 n.a,.int .i64 (kids:Nat),.string n.text,.int .i64 n.int,.int .u64 n.bits] 48
 have x0:(W4.alloc (Ab n kids)).drew.cell? ⟨W4.heap.size,0,none⟩=some (.int .i64 n.kind):=nb 0
 have x3:(W4.alloc (Ab n kids)).drew.cell? ⟨W4.heap.size,3,none⟩=some (.string n.text):=nb 3
 have h5:=H4.out.below b5
 have l5:=L4.out.below b5
 have B5:=hid (HB4.out.trans (b5.mono H4.out.size))
 have K5:=hid (K4.out.more b5)
 clear nb b5 d0 d1 d2 d3 d4 d5 q0 j0 c0 c1 c2 c3 c4 c5 p0 k0 m1 m2 H4 L4 HB4 K4
 simp only[Ab] at *
 generalize z4z _=W5 at *
 generalize W4.heap.size=nbk at *
 have hS:=HS.out
 unfold EH at hS
 rw[HO.out] at hS
 have hka:Jl L o.1=n.kind:=by unfold Jl;rw[HN.out]
 have hta:Me L o.1=n.text:=by unfold Me;rw[HN.out]
 simp only[hka,hta,HOL.out] at hS
 have k0:=l5.c0
 by_cases hk:n.kind=6
 case neg=>
  rw[if_neg hk] at hS
  have b6:(n.kind==6)=false:=by simpa using hk
  have H5:=hid h5
  obtain rfl:=Option.some.inj hS
  clear h5 l5 hk hS hka hta HS HO HN
  go_wp2
  go_ret
  exact⟨rfl,B5.out,K5.out,_,_,_,_,H5.out⟩
 case pos=>
  rw[if_pos hk] at hS
  have b6:(n.kind==6)=true:=by simpa using hk
  obtain⟨mb,br,lm,lr,hbs,hcs2,hm,ci⟩:=h5.drew.pr.inn
  simp only at hcs2
  rw[hcs2] at hS
  simp only at hS
  obtain rfl:=Option.some.inj hS
  have p6:=AU h5.pr.blk 6
  change _=some (Value.slice (some ⟨gs,0,none⟩) o.2.1 cs) at p6
  obtain⟨W6,hr,hm6,hg6⟩:=Lu (P:=prog) J5 II hm n.text o.1
  have hU6:It.AL (λk=>k=mb) W5.drew W6:=(It.AL.refl _ _).grown hg6 (λk e=>.inl (by cases e;rfl))
  have h6:=h5.drew.putS hbs hcs2 hU6 hm6
  have hmo:mb ∈ mp::mt::mc::bs.drop (c.scs.length-o.2.1):=by rw[hbs];simp
  have B6:=hid (B5.out.drew.trans (hU6.below h5.drew.size (λk e=>by subst e;exact h5.lows _ hmo)))
  have K6:=hid (K5.out.drew.upd hU6 (λk e=>by subst e;obtain⟨es,kk,h9⟩:=h5.drew.mobj _ hmo;exact⟨_,h9,by show 1≠_;decide⟩))
  have hne:lb≠mb:=by
   rintro rfl
   obtain⟨es,kk,h9⟩:=h5.mobj _ hmo
   have:=l5.c0
   simp[World.cell?,h9] at this
  have kk0:W6.cell? ⟨lb,0,none⟩=some (.int .i64 (o.1:Nat)):=by
   have:W6.heap[lb]? = W5.heap[lb]?:=hU6.block lb l5.lt hne
   simp only[World.cell?,this] at k0 ⊢
   exact k0
  have H6:=hid h6
  clear h5 l5 hk hS hka hta HS HO HN hm hm6 hg6 hU6 h6 hmo hne hbs hcs2 B5
  go_upto_region 7 with fail
  refine It.Eu (z:=9) (S:=λw'=>w'.cell? ⟨pb,6,none⟩=some (Value.slice (some ⟨gs,0,none⟩) o.2.1 cs)/\w'.cell? ⟨nbk,3,none⟩=some (.string n.text)/\w'.cell? ⟨lb,0,none⟩=some (.int .i64 (o.1:Nat))) (by kernel_rfl) ?_
  have hS:W5.drew.cell? ⟨pb,6,none⟩=some (Value.slice (some ⟨gs,0,none⟩) o.2.1 cs)/\W5.drew.cell? ⟨nbk,3,none⟩=some (.string n.text)/\W5.drew.cell? ⟨lb,0,none⟩=some (.int .i64 (o.1:Nat)):=⟨p6,x3,k0⟩
  clear p6 x3 x0 b6
  iterate 4 ((refine It.nL 0 ?_ rfl (by kernel_rfl) (λ_ _ _ h=>h) (Or.inl ⟨by rfl,?_⟩) hS ?_);rotate_left;(focus (intro w' hSw;(obtain⟨s0,s1,s2⟩:=hSw);go_simp;(try with_reducible rfl)));(try simp only[Act.put,zx1,zx2,zx3,zx4,zx5,zx6]))
  iterate 4 ((refine It.nL 5 ?_ rfl (by kernel_rfl) (λ_ _ _ h=>h) (Or.inl ⟨by rfl,?_⟩) hS ?_);rotate_left;(focus (intro w' hSw;(obtain⟨s0,s1,s2⟩:=hSw);go_simp;(try with_reducible rfl)));(try simp only[Act.put,zx1,zx2,zx3,zx4,zx5,zx6]))
  refine It.Aa (i:=4) (by kernel_rfl) rfl rfl (λK hK=>?_)
  refine It.AZ (λc h=>by cases h) ?_
  have HK:=hid hK
  clear hK
  go_simp
  refine ci.mono ?_
  rintro e w9 ⟨rfl,hw⟩
  have hw':=hw.symm
  subst hw'
  refine HK.out _ _ (.inr hS) ?_
  clear HK hw ci
  (try simp only[Act.put,zx1,zx2,zx3,zx4,zx5,zx6])
  refine It.Aa (i:=9) (by kernel_rfl) rfl rfl (λK hK=>?_)
  refine It.AZ (λc h=>by cases h) ?_
  have HK:=hid hK
  clear hK
  go_simp
  refine HK.out _ _ (.inl rfl) ?_
  (try simp only[Act.put,zx1,zx2,zx3,zx4,zx5,zx6])
  refine It.EU (by kernel_rfl) ?_ _
  clear HK hS k0 hr
  go_wp2
  go_ret
  exact⟨rfl,B6.out,K6.out,_,_,_,_,H6.out⟩
end
end Go.Proofs.YtjplieobnknnpaaGreatDoor.W.Tr
