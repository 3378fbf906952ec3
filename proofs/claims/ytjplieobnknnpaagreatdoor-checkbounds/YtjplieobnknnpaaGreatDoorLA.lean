import Derived.Test.YtjplieobnknnpaaGreatDoorKV
import Derived.Test.YtjplieobnknnpaaGreatDoorKY
import Derived.Test.YtjplieobnknnpaaGreatDoorKZ
import Derived.Test.YtjplieobnknnpaaGreatDoorKA
open List renaming getElem?_toArray → z4z, getElem?_cons_zero → z5z, getElem?_cons_succ → z6z
open Array renaming getElem?_eq_some_iff → z9z
open Nat renaming le_refl → z1z
open Go.World renaming alloc_heap_new → z3z, size_alloc → z7z
open Go.RowKit.Below renaming refl → z2z, heap_setCell → z8z
open And renaming intro → z0z
open Go.Proofs.Tryz
set_option maxRecDepth 1000000
set_option maxHeartbeats 8000000
namespace Go.Proofs.YtjplieobnknnpaaGreatDoor.W.Tr
open Go.ChangeShapes Go.WideShapes Go.RowKit Go.Shelf Go.ChangeMaps Ck
set_option linter.unusedVariables false
set_option linter.unusedSimpArgs false
theorem jr{L:List (Nd × Nat)}{res:List UInt8}{fuel:Nat}(h1:Ie L=true)(h2:∀p ∈ L,QG p/\0<=p.1.bits/\p.1.bits<18446744073709551616)(h3:EF (EJ GR) L fuel [tK] 0 []=some res):LZ L:=⟨⟨res.toArray⟩,λw g cap hN hg hT hM=>AAQ w _ L hN (λk e=>by simp only[Value.ownBlock] at e;cases e;exact hg) h1 h2 fuel res h3 hT hM⟩
theorem Uh{fn:Func}{p q:Tmp}(h:fn.results = #[.tmp p,.cell q 26])(tmps:Array Value)(w:World)(b3:Nat)(v c a:Value)(fr:Nat × Nat)(hp:tmps.getD p undef=v)(hq:tmps.getD q undef=.pointer (some ⟨b3,0,none⟩))(hg3:w.heap[b3]? = some (.cells #[c,a] 26 fr)):(results fn tmps).run prog w=.ok (.tuple #[v,.agg #[c,a]]) w:=by
 obtain⟨d,hu,hd⟩:=Tn
 have hl:=run_loadVar_row (P:=prog) w b3 26 26 #[c,a] fr d hg3 hu (by cases d <;> first|rfl|exact hd) (by rw[Tx];rfl)
 have hp':tmps[p]?.getD undef=v:=by simpa using hp
 have hq':tmps[q]?.getD undef=.pointer (some ⟨b3,0,none⟩):=by simpa using hq
 simp[results,h,hp',hq',asAddr,hl]
def RY(s:ByteArray)(x y:Int):Prop:=∀w,Tabs w->MarksIn w->Calls prog 7 #[.string s] w λe w'=>e=.returned (.tuple #[.slice none 0 0,.agg #[.int .i64 x,.int .i64 y]])/\Below w.heap.size w w'
def Td(s:ByteArray)(L:List (Nd × Nat)):Prop:=∀w,Tabs w->MarksIn w->Calls prog 7 #[.string s] w λe w'=>∃g cap,e=.returned (.tuple #[.slice (some ⟨g,0,none⟩) L.length cap,.agg #[.int .i64 0,.int .i64 0]])/\Below w.heap.size w w'/\Cw w' (.slice (some ⟨g,0,none⟩) L.length cap) L
theorem oZ(s:ByteArray)(hs:s.size<=1000000){f:Ci}(h:Ends s.data.toList (.error f))(hf:f.1≠0):RY s f.1 f.2:=by
 intro w ht hm
 have b0:Below w.heap.size w (w.alloc (.cells #[.int .i64 0,.int .i64 0] 26)):=(z2z _ w).alloc (z1z _) _
 have g0:=z3z w (.cells #[.int .i64 0,.int .i64 0] 26)
 have hs0:(w.alloc (.cells #[.int .i64 0,.int .i64 0] 26)).heap.size=w.heap.size+1:=z7z ..
 obtain⟨x,y⟩:=f
 simp only at hf
 have cP:Calls prog 12 #[.string s] (w.alloc (.cells #[.int .i64 0,.int .i64 0] 26)) λe w'=>e=.returned (.tuple #[.slice none 0 0,.agg #[.int .i64 x,.int .i64 y]])/\Below (w.alloc (.cells #[.int .i64 0,.int .i64 0] 26)).heap.size (w.alloc (.cells #[.int .i64 0,.int .i64 0] 26)) w':=oD s hs _ (ht.below b0) (hm.below b0) h
 have c1:(x==0)=false:=by simpa using hf
 have c2:(x != 0)=true:=by simpa using hf
 have HB0:=hid (z0z b0 (z0z g0 hs0))
 clear b0 g0 hs0 ht hm h hf hs
 go_enter func7,ntmps7
 go_upto_region 5 with(go_at_call 12;(with_reducible refine cP.mono ?_);rintro e w1 ⟨rfl,hB1⟩;(have HB1:=hid hB1);clear hB1 cP)
 have b1:Below w1.heap.size w1 (w1.alloc (.cells #[.int .i64 x,.int .i64 y] 26)):=(z2z _ w1).alloc (z1z _) _
 have d1:=z3z w1 (.cells #[.int .i64 x,.int .i64 y] 26)
 obtain⟨b0,g0,hs0⟩:=HB0.out
 have s1:=HB1.out.size
 have g1:=(b1.block w.heap.size (by omega)).trans ((HB1.out.block w.heap.size (by omega)).trans g0)
 have bb:=b0.trans ((HB1.out.mono (by omega)).trans (b1.mono (by omega)))
 generalize w1.alloc (.cells #[.int .i64 x,.int .i64 y] 26)=W2 at *
 have e0:=cell_of_row _ _ 0 _ _ _ g1
 have e1:=cell_of_row _ _ 1 _ _ _ g1
 have z0:=thaw g1 0
 have z1:=thaw g1 1
 have x0:=cell_of_row _ _ 0 _ _ _ d1
 have x1:=cell_of_row _ _ 1 _ _ _ d1
 simp only[z4z,z5z,z6z] at e0 e1 x0 x1
 have G1:=hid g1
 have BB:=hid bb
 clear g1 bb b0 g0 hs0 s1 b1 d1 HB0 HB1
 go_region
 try go_wp2
 try rw[Exit.noGoto_ret]
 refine bodyPost_ret (P:=prog) (fn:=Tryz.f7) (Uh rfl _ _ w.heap.size _ _ _ (0,0) rfl rfl (Ik G1.out _ _)) rfl ?_
 exact⟨rfl,((BB.out.setCell (p:=⟨w.heap.size,0,none⟩) (z1z _) _).setCell (p:=⟨w.heap.size,1,none⟩) (z1z _) _).drew⟩
theorem Cw.set{w:World}{g n cap:Nat}{L:List (Nd × Nat)}(h:Cw w (.slice (some ⟨g,0,none⟩) n cap) L){b:Nat}(hb:b≠g)(o:Nat)(v:Value):Cw (w.setCell ⟨b,o,none⟩ v) (.slice (some ⟨g,0,none⟩) n cap) L:=by
 obtain⟨g',cap',e,h1,h2,h3⟩:=h
 simp only[Value.slice.injEq,Option.some.injEq,Addr.mk.injEq,true_and,and_true] at e
 obtain⟨rfl,rfl,rfl⟩:=e
 exact⟨g,cap,rfl,by simpa using h1,h2,λi p hp j hj=>(World.cell?_setCell_far w ⟨b,o,none⟩ ⟨g,_,none⟩ v hb).trans (h3 i p hp j hj)⟩
theorem eU{s:ByteArray}(hs:s.size<=1000000){fo:Fo}{s':Cs}(h:Ends s.data.toList (.ok (fo,s')))(w:World)(hT:Tabs w)(hM:MarksIn w):Calls prog 12 #[.string s] w λe w'=>∃g cap,e=.returned (.tuple #[.slice (some ⟨g,0,none⟩) (AJ fo).length cap,.agg #[.int .i64 0,.int .i64 0]])/\Below w.heap.size w w'/\Cw w' (.slice (some ⟨g,0,none⟩) (AJ fo).length cap) (AJ fo)/\w.heap.size<=g:=by
 have hfew:=h.few
 obtain⟨nd,md,hf⟩:∃nd m,fo=Fo.one nd m:=by obtain⟨n,h⟩:=h;exact Zi n _ _ _ _ h
 have hpos:0<(AJ fo).length:=by rw[hf];simp[Fo.one,AJ]
 refine(nU s hs w hT hM h).mono ?_
 rintro e w' ⟨r,rfl,hB,ho⟩
 have hnr:=iH ho hpos (by omega)
 obtain⟨g,cap,rfl,_⟩:=id hnr
 exact⟨g,cap,rfl,hB,qC hnr (ho.lt g rfl).2,(ho.lt g rfl).1⟩
section
variable (s:ByteArray) (hs:s.size<=1000000) (n:Nd) (u:Fo) (hn1:n.kind=1) (hw:Wt .us u) (L:List (Nd × Nat)) (hL:AJ (.cons n u .nil)=L) (hfew:L.length<=100000) (hpr:LZ L) {s':Cs} (h:Ends s.data.toList (.ok (.cons n u .nil,s')))
include hs hn1 hw hL hfew hpr h
theorem ABR(x y:Int)(hf:x≠0)(hp:Jf Am 64 (.cons n u .nil)=some (x,y)):RY s x y:=by
 intro w ht hm
 have b0:Below w.heap.size w (w.alloc (.cells #[.int .i64 0,.int .i64 0] 26)):=(z2z _ w).alloc (z1z _) _
 have g0:=z3z w (.cells #[.int .i64 0,.int .i64 0] 26)
 have hs0:(w.alloc (.cells #[.int .i64 0,.int .i64 0] 26)).heap.size=w.heap.size+1:=z7z ..
 have cP:=eU hs h (w.alloc (.cells #[.int .i64 0,.int .i64 0] 26)) (ht.below b0) (hm.below b0)
 rw[hL] at cP
 have CC:=hid (show ∀w1 w2 g cap,Below (w.alloc (.cells #[.int .i64 0,.int .i64 0] 26)).heap.size (w.alloc (.cells #[.int .i64 0,.int .i64 0] 26)) w1->Cw w1 (.slice (some ⟨g,0,none⟩) L.length cap) L->w2=w1.alloc (.cells #[.int .i64 0,.int .i64 0] 26)->Calls prog 13 #[(.slice (some ⟨g,0,none⟩) L.length cap)] w2 λe w'=>e=.returned (.agg #[.int .i64 x,.int .i64 y])/\Below w2.heap.size w2 w' from λw1 w2 g cap hB hN e=>by
  subst e
  have hB2:Below w1.heap.size w1 (w1.alloc (.cells #[.int .i64 0,.int .i64 0] 26)):=(z2z _ w1).alloc (z1z _) _
  have hB3:=b0.trans ((hB.mono (by omega)).trans (hB2.mono (by have:=hB.size;omega)))
  exact Ul n u hn1 hw L hL hfew hpr (x,y) hp g cap (w1.alloc (.cells #[.int .i64 0,.int .i64 0] 26)) (ht.below hB3) (hm.below hB3) (hN.below hB2))
 have c1:(x != 0)=true:=by simpa using hf
 have HB0:=hid (z0z b0 (z0z g0 hs0))
 clear b0 g0 hs0 ht hm h hf hs hp hpr hfew hL hw hn1
 go_enter func7,ntmps7
 go_upto_region 3 with(go_at_call 12;(with_reducible refine cP.mono ?_);rintro e w1 ⟨g,cap,rfl,hB1,hN1,hG1⟩;(have HB1:=hid hB1);(have HN1:=hid hN1);(have HG1:=hid hG1);clear hB1 hN1 hG1 cP)
 have cC:=CC.out w1 _ g cap HB1.out HN1.out rfl
 have b1:Below w1.heap.size w1 (w1.alloc (.cells #[.int .i64 0,.int .i64 0] 26)):=(z2z _ w1).alloc (z1z _) _
 have d1:=z3z w1 (.cells #[.int .i64 0,.int .i64 0] 26)
 obtain⟨b0,g0,hs0⟩:=HB0.out
 have s1:=HB1.out.size
 have hs2:(w1.alloc (.cells #[.int .i64 0,.int .i64 0] 26)).heap.size=w1.heap.size+1:=z7z ..
 have g1:=(b1.block w.heap.size (by omega)).trans ((HB1.out.block w.heap.size (by omega)).trans g0)
 have bb:=b0.trans ((HB1.out.mono (by omega)).trans (b1.mono (by omega)))
 have Q:=hid (z0z d1 (z0z g1 (z0z bb (z0z hs2 (z0z s1 hs0)))))
 clear d1 g1 bb hs2 s1 hs0 b0 g0 b1 HB0 HB1 HN1 HG1 CC
 generalize hk1:w1.heap.size=k1 at *
 generalize w1.alloc (.cells #[.int .i64 0,.int .i64 0] 26)=W2 at *
 go_upto_region 4 with(go_at_call 13;(with_reducible refine cC.mono ?_);rintro e w3 ⟨rfl,hB3⟩;(have q3:=(hB3.block _ (by have:=Q.out.2.2.2.1;omega)).trans Q.out.1);(have e0:=cell_of_row _ _ 0 _ _ _ q3);(have e1:=cell_of_row _ _ 1 _ _ _ q3);(have z0:=thaw q3 0);(have z1:=thaw q3 1);(simp only[z4z,z5z,z6z] at e0 e1);(have HB3:=hid hB3);(have Q3:=hid q3);clear cC hB3 q3)
 clear e0 e1 z0 z1
 obtain⟨d1,g1,bb,hs2,s1,hs0⟩:=Q.out
 have d3:((w3.setCell ⟨k1,0,none⟩ (.int .i64 x)).setCell ⟨k1,1,none⟩ (.int .i64 y)).heap[k1]? = some (.cells #[.int .i64 x,.int .i64 y] 26 (0,0)):=Ik Q3.out _ _
 have g3:((w3.setCell ⟨k1,0,none⟩ (.int .i64 x)).setCell ⟨k1,1,none⟩ (.int .i64 y)).heap[w.heap.size]? = some (.cells #[.int .i64 0,.int .i64 0] 26 (0,0)):=(z8z _ _ _ _ (by show w.heap.size≠k1;omega)).trans ((z8z _ _ _ _ (by show w.heap.size≠k1;omega)).trans ((HB3.out.block _ (by omega)).trans g1))
 have b3:Below w.heap.size w ((w3.setCell ⟨k1,0,none⟩ (.int .i64 x)).setCell ⟨k1,1,none⟩ (.int .i64 y)):=((bb.trans (HB3.out.mono (by omega))).setCell (p:=⟨k1,0,none⟩) (by show w.heap.size<=k1;omega) _).setCell (p:=⟨k1,1,none⟩) (by show w.heap.size<=k1;omega) _
 generalize (w3.setCell ⟨k1,0,none⟩ (.int .i64 x)).setCell ⟨k1,1,none⟩ (.int .i64 y)=W4 at *
 have e0:=cell_of_row _ _ 0 _ _ _ g3
 have e1:=cell_of_row _ _ 1 _ _ _ g3
 have z0:=thaw g3 0
 have z1:=thaw g3 1
 have x0:=cell_of_row _ _ 0 _ _ _ d3
 have x1:=cell_of_row _ _ 1 _ _ _ d3
 simp only[z4z,z5z,z6z] at e0 e1 x0 x1
 have G1:=hid g3
 have BB:=hid b3
 clear g3 b3 d3 d1 g1 bb hs2 s1 hs0 Q Q3 HB3
 go_upto_region 5 with fail
 go_region
 try go_wp2
 try rw[Exit.noGoto_ret]
 refine bodyPost_ret (P:=prog) (fn:=Tryz.f7) (Uh rfl _ _ w.heap.size _ _ _ (0,0) rfl rfl (Ik G1.out _ _)) rfl ?_
 exact⟨rfl,((BB.out.setCell (p:=⟨w.heap.size,0,none⟩) (z1z _) _).setCell (p:=⟨w.heap.size,1,none⟩) (z1z _) _).drew⟩
theorem AAs(y:Int)(hp:Jf Am 64 (.cons n u .nil)=some (0,y)):Td s L:=by
 intro w ht hm
 have b0:Below w.heap.size w (w.alloc (.cells #[.int .i64 0,.int .i64 0] 26)):=(z2z _ w).alloc (z1z _) _
 have g0:=z3z w (.cells #[.int .i64 0,.int .i64 0] 26)
 have hs0:(w.alloc (.cells #[.int .i64 0,.int .i64 0] 26)).heap.size=w.heap.size+1:=z7z ..
 have cP:=eU hs h (w.alloc (.cells #[.int .i64 0,.int .i64 0] 26)) (ht.below b0) (hm.below b0)
 rw[hL] at cP
 have CC:=hid (show ∀w1 w2 g cap,Below (w.alloc (.cells #[.int .i64 0,.int .i64 0] 26)).heap.size (w.alloc (.cells #[.int .i64 0,.int .i64 0] 26)) w1->Cw w1 (.slice (some ⟨g,0,none⟩) L.length cap) L->w2=w1.alloc (.cells #[.int .i64 0,.int .i64 0] 26)->Calls prog 13 #[(.slice (some ⟨g,0,none⟩) L.length cap)] w2 λe w'=>e=.returned (.agg #[.int .i64 0,.int .i64 y])/\Below w2.heap.size w2 w' from λw1 w2 g cap hB hN e=>by
  subst e
  have hB2:Below w1.heap.size w1 (w1.alloc (.cells #[.int .i64 0,.int .i64 0] 26)):=(z2z _ w1).alloc (z1z _) _
  have hB3:=b0.trans ((hB.mono (by omega)).trans (hB2.mono (by have:=hB.size;omega)))
  exact Ul n u hn1 hw L hL hfew hpr (0,y) hp g cap (w1.alloc (.cells #[.int .i64 0,.int .i64 0] 26)) (ht.below hB3) (hm.below hB3) (hN.below hB2))
 have HB0:=hid (z0z b0 (z0z g0 hs0))
 clear b0 g0 hs0 ht hm h hs hp hpr hfew hL hw hn1
 go_enter func7,ntmps7
 go_upto_region 3 with(go_at_call 12;(with_reducible refine cP.mono ?_);rintro e w1 ⟨g,cap,rfl,hB1,hN1,hG1⟩;(have HB1:=hid hB1);(have HN1:=hid hN1);(have HG1:=hid hG1);clear hB1 hN1 hG1 cP)
 have cC:=CC.out w1 _ g cap HB1.out HN1.out rfl
 have b1:Below w1.heap.size w1 (w1.alloc (.cells #[.int .i64 0,.int .i64 0] 26)):=(z2z _ w1).alloc (z1z _) _
 have d1:=z3z w1 (.cells #[.int .i64 0,.int .i64 0] 26)
 obtain⟨b0,g0,hs0⟩:=HB0.out
 have s1:=HB1.out.size
 have hs2:(w1.alloc (.cells #[.int .i64 0,.int .i64 0] 26)).heap.size=w1.heap.size+1:=z7z ..
 have g1:=(b1.block w.heap.size (by omega)).trans ((HB1.out.block w.heap.size (by omega)).trans g0)
 have bb:=b0.trans ((HB1.out.mono (by omega)).trans (b1.mono (by omega)))
 have n1:=HN1.out.below b1
 have hgl:=z0z (QW HN1.out) HG1.out
 have Q:=hid (z0z d1 (z0z g1 (z0z bb (z0z hs2 (z0z s1 (z0z hs0 (z0z n1 hgl)))))))
 clear d1 g1 bb hs2 s1 hs0 b0 g0 b1 HB0 HB1 HN1 HG1 CC n1 hgl
 generalize hk1:w1.heap.size=k1 at *
 generalize w1.alloc (.cells #[.int .i64 0,.int .i64 0] 26)=W2 at *
 go_upto_region 4 with(go_at_call 13;(with_reducible refine cC.mono ?_);rintro e w3 ⟨rfl,hB3⟩;(have q3:=(hB3.block _ (by have:=Q.out.2.2.2.1;omega)).trans Q.out.1);(have e0:=cell_of_row _ _ 0 _ _ _ q3);(have e1:=cell_of_row _ _ 1 _ _ _ q3);(have z0:=thaw q3 0);(have z1:=thaw q3 1);(simp only[z4z,z5z,z6z] at e0 e1);(have HB3:=hid hB3);(have Q3:=hid q3);clear cC hB3 q3)
 clear e0 e1 z0 z1
 obtain⟨d1,g1,bb,hs2,s1,hs0,n1,hgl⟩:=Q.out
 have d3:((w3.setCell ⟨k1,0,none⟩ (.int .i64 0)).setCell ⟨k1,1,none⟩ (.int .i64 y)).heap[k1]? = some (.cells #[.int .i64 0,.int .i64 y] 26 (0,0)):=Ik Q3.out _ _
 have g3:((w3.setCell ⟨k1,0,none⟩ (.int .i64 0)).setCell ⟨k1,1,none⟩ (.int .i64 y)).heap[w.heap.size]? = some (.cells #[.int .i64 0,.int .i64 0] 26 (0,0)):=(z8z _ _ _ _ (by show w.heap.size≠k1;omega)).trans ((z8z _ _ _ _ (by show w.heap.size≠k1;omega)).trans ((HB3.out.block _ (by omega)).trans g1))
 have b3:Below w.heap.size w ((w3.setCell ⟨k1,0,none⟩ (.int .i64 0)).setCell ⟨k1,1,none⟩ (.int .i64 y)):=((bb.trans (HB3.out.mono (by omega))).setCell (p:=⟨k1,0,none⟩) (by show w.heap.size<=k1;omega) _).setCell (p:=⟨k1,1,none⟩) (by show w.heap.size<=k1;omega) _
 have n3:Cw ((w3.setCell ⟨k1,0,none⟩ (.int .i64 0)).setCell ⟨k1,1,none⟩ (.int .i64 y)) (.slice (some ⟨g,0,none⟩) L.length cap) L:=((n1.below HB3.out).set (by omega) 0 _).set (by omega) 1 _
 generalize (w3.setCell ⟨k1,0,none⟩ (.int .i64 0)).setCell ⟨k1,1,none⟩ (.int .i64 y)=W4 at *
 have e0:=cell_of_row _ _ 0 _ _ _ g3
 have e1:=cell_of_row _ _ 1 _ _ _ g3
 have z0:=thaw g3 0
 have z1:=thaw g3 1
 have x0:=cell_of_row _ _ 0 _ _ _ d3
 have x1:=cell_of_row _ _ 1 _ _ _ d3
 simp only[z4z,z5z,z6z] at e0 e1 x0 x1
 have G1:=hid g3
 have BB:=hid b3
 have N3:=hid (n3.set (b:=w.heap.size) (by omega))
 have H9:=hid (z0z hgl hs0)
 clear g3 b3 d3 d1 g1 bb hs2 s1 hs0 Q Q3 HB3 n1 hgl n3
 go_wp2
 refine bodyPost_ret (P:=prog) (fn:=Tryz.f7) (Uh rfl _ _ w.heap.size _ _ _ (0,0) rfl rfl (Ik G1.out _ _)) rfl ?_
 refine⟨g,cap,rfl,(BB.out.setCell (p:=⟨w.heap.size,0,none⟩) (z1z _) _).setCell (p:=⟨w.heap.size,1,none⟩) (z1z _) _,?_⟩
 exact(N3.out 0 _).set (by have:=H9.out;omega) 1 _
end
structure Rd (l:List UInt8) (u:Fo):Prop where
 ends:∃s',Ends l (.ok (.cons ⟨1,0,⟨#[]⟩,0,0⟩ u .nil,s'))
 wt:Wt .us u
 pr:LZ (AJ (.cons ⟨1,0,⟨#[]⟩,0,0⟩ u .nil))
 few:(AJ (.cons ⟨1,0,⟨#[]⟩,0,0⟩ u .nil)).length<=100000
theorem eG{l:List UInt8}(hl:l.length<=6000){fo:Fo}{s':Cs}(h:Ends l (.ok (fo,s'))):∃u,fo=.cons ⟨1,0,⟨#[]⟩,0,0⟩ u .nil/\Rd l u:=by
 obtain⟨u,hu,h1,h2,⟨fuel,h3⟩⟩:=ABm l hl h
 have hfew:=h.few
 obtain⟨n,hn⟩:=id h
 rw[WI l (by omega)] at hn
 obtain⟨hT,_⟩:=YO l.length l 0 (z1z _) hl
 obtain⟨⟨u',hu',hw⟩,_⟩:=Y9 n (.pg .nil) ⟨T l 0,0⟩ (λy hy c=>(hT y hy).2 c) Wt.unil fo s' hn
 have e:u'=u:=by rw[hu] at hu';cases hu';rfl
 subst e
 have hu2:fo=.cons ⟨1,0,⟨#[]⟩,0,0⟩ u' .nil:=hu
 subst hu2
 exact⟨u',rfl,⟨s',h⟩,hw,jr h1 h2 h3,by omega⟩
def Ld(mr:Int)(u:Fo):Option (Int × Int):=Jf Am mr (.cons ⟨1,0,⟨#[]⟩,0,0⟩ u .nil)
def JV(u:Fo):List (Nd × Nat):=AJ (.cons ⟨1,0,⟨#[]⟩,0,0⟩ u .nil)
theorem ACo(mr:Int){u:Fo}(hw:Wt .us u):∃r,Ld mr u=some r:=vG Am mr hw _ rfl
theorem Rd.bad{s:ByteArray}{u:Fo}(h:Rd s.data.toList u)(hs:s.size<=1000000){x y:Int}(hx:x≠0)(hc:Ld 64 u=some (x,y)):RY s x y:=by
 obtain⟨s',he⟩:=h.ends
 exact ABR s hs _ u rfl h.wt _ rfl h.few h.pr he x y hx hc
theorem Rd.good{s:ByteArray}{u:Fo}(h:Rd s.data.toList u)(hs:s.size<=1000000){y:Int}(hc:Ld 64 u=some (0,y)):Td s (JV u):=by
 obtain⟨s',he⟩:=h.ends
 exact AAs s hs _ u rfl h.wt _ rfl h.few h.pr he y hc
theorem ACx(s:ByteArray)(hs:s.size<=6000):(∃x y,x≠0/\RY s x y)\/∃u y,Rd s.data.toList u/\Ld 64 u=some (0,y)/\Td s (JV u):=by
 have sl:=Ao s
 obtain⟨r,hr⟩:=ends s.data.toList
 cases r with
 | error f=>exact .inl ⟨f.1,f.2,Xi hr,oZ s (by omega) hr (Xi hr)⟩
 | ok p=>
  obtain⟨fo,s'⟩:=p
  obtain⟨u,rfl,hR⟩:=eG (by rw[sl];exact hs) hr
  obtain⟨⟨x,y⟩,hc⟩:=ACo 64 hR.wt
  by_cases hx:x=0
  ·subst hx
   exact .inr ⟨u,y,hR,hc,hR.good (by omega) hc⟩
  ·exact .inl ⟨x,y,hx,hR.bad (by omega) hx hc⟩
theorem WX{l:List UInt8}{n:Nat}{u:Fo}(hl:l.length<=6000)(h:isOk (P n (.pg .nil) ⟨Au l,0⟩)=some (.cons ⟨1,0,⟨#[]⟩,0,0⟩ u .nil)):Rd l u:=by
 cases e:P n (.pg .nil) ⟨Au l,0⟩ with
 | none=>rw[e] at h;cases h
 | some r=>
  rw[e] at h
  match r,h,e with
  | .error _,h,e=>cases h
  | .ok (f,s'),h,e=>
   have hf:f=.cons ⟨1,0,⟨#[]⟩,0,0⟩ u .nil:=Option.some.inj h
   subst hf
   obtain⟨u',hu,hR⟩:=eG hl ⟨n,e⟩
   cases hu
   exact hR
abbrev aS:ByteArray:=⟨#[102,110,32,102,40,97,44,32,98,41,32,123,32,114,101,116,117,114,110,32,97,32,43,32,98,32,42,32,102,40,97,44,32,49,41,59,32,125]⟩
abbrev bS:ByteArray:=⟨#[102,110,32,102,40,41,32,123,32,120,32,61,32,49,59,32,125]⟩
abbrev fA:Nd:=⟨3,3,⟨#[102]⟩,0,0⟩
abbrev kA:Fo:=.cons ⟨4,5,⟨#[97]⟩,0,0⟩ .nil (.cons ⟨4,8,⟨#[98]⟩,0,0⟩ .nil (.cons ⟨5,11,⟨#[]⟩,0,0⟩ (.cons ⟨15,13,⟨#[]⟩,0,0⟩
 (.cons ⟨21,22,⟨#[43]⟩,0,0⟩ (.cons ⟨25,20,⟨#[97]⟩,0,0⟩ .nil (.cons ⟨21,26,⟨#[42]⟩,0,0⟩ (.cons ⟨25,24,⟨#[98]⟩,0,0⟩ .nil (.cons ⟨23,28,⟨#[102]⟩,0,0⟩ (.cons ⟨25,30,⟨#[97]⟩,0,0⟩ .nil (.cons ⟨26,33,⟨#[]⟩,1,0⟩ .nil .nil)) .nil)) .nil)) .nil) .nil) .nil))
abbrev uA:Fo:=.cons fA kA .nil
abbrev uB:Fo:=.cons fA (.cons ⟨5,7,⟨#[]⟩,0,0⟩ (.cons ⟨7,9,⟨#[120]⟩,0,0⟩ (.cons ⟨26,13,⟨#[]⟩,1,0⟩ .nil .nil) .nil) .nil) .nil
theorem L8:Rd aS.data.toList uA:=WX (n:=60) (by decide) (by kernel_rfl)
theorem rdB:Rd bS.data.toList uB:=WX (n:=60) (by decide) (by kernel_rfl)
theorem ckA:Ld 64 uA=some (0,0):=by kernel_rfl
theorem jU:Ld 9223372036854775807 uA=some (0,0):=by kernel_rfl
theorem ckB:Ld 64 uB=some (63,9):=by kernel_rfl
theorem ACD:Iq fA kA=6:=by kernel_rfl
theorem jl:Ig (Iu (JV uA))=[22,26]:=by
 have h:Iu (JV uA)=[22,26]:=by kernel_rfl
 rw[h]
 simp[Ig,List.mergeSort]
theorem kR{w:World}{B:Nat}{v:Value}{x y:Int}(h:OZ w B v [x,y]):∃g cap,v=.slice (some ⟨g,0,none⟩) 2 cap/\w.cell? ⟨g,0,none⟩=some (.int .i64 x)/\w.cell? ⟨g,1,none⟩=some (.int .i64 y)/\g<w.heap.size:=by
 rcases h.2 with⟨_,e⟩|⟨g,cap,cur,rfl,h1,h2,h3,h4,h5,h6⟩
 ·cases e
 ·have k:∀j z,[Kn x,Kn y][j]? = some z->w.cell? ⟨g,j,none⟩=some z:=by
   intro j z hj
   rw[cell_of_row w g j _ _ _ h2]
   have e1:(cur.toList.take (2*1))[j]? = ([x,y].map Kn)[j]?:=by rw[<- h6];rfl
   have hj2:j<2:=(List.getElem?_eq_some_iff.1 hj).1
   rw[List.getElem?_take,if_pos (by omega),Array.getElem?_toList] at e1
   rw[e1]
   exact hj
  exact⟨g,cap,rfl,k 0 _ rfl,k 1 _ rfl,(z9z.1 h2).1⟩
theorem AC0(w:World)(ht:Tabs w)(hm:MarksIn w):Calls prog 10 #[] w λe w'=>e=.returned (.bool true)/\Below w.heap.size w w':=by
 have cA:=L8.good (by decide) ckA w ht hm
 have CB:=hid (show ∀w1,Below w.heap.size w w1->Calls prog 7 #[.string bS] w1 λe w'=>e=.returned (.tuple #[.slice none 0 0,.agg #[.int .i64 63,.int .i64 9]])/\Below w1.heap.size w1 w' from λw1 hB=>rdB.bad (by decide) (by decide) ckB w1 (ht.below hB) (hm.below hB))
 have CS:=hid (show ∀w1 g cap,Below w.heap.size w w1->Cw w1 (.slice (some ⟨g,0,none⟩) (JV uA).length cap) (JV uA)->Calls prog 18 #[(.slice (some ⟨g,0,none⟩) (JV uA).length cap)] w1 λe w'=>∃v,e=.returned v/\Below w1.heap.size w1 w'/\OZ w' w1.heap.size v [22,26] from λw1 g cap hB hN=>by
  have:=iP _ uA rfl L8.wt _ rfl L8.few L8.pr 0 ckA g cap w1 (ht.below hB) (hm.below hB) hN
  rw[<- jl]
  exact this)
 have CR:=hid (show ∀w1 g cap,Below w.heap.size w w1->Cw w1 (.slice (some ⟨g,0,none⟩) (JV uA).length cap) (JV uA)->Calls prog 8 #[(.slice (some ⟨g,0,none⟩) (JV uA).length cap),.string ⟨#[102]⟩] w1 λe w'=>e=.returned (.int .i64 6)/\Below w1.heap.size w1 w' from λw1 g cap hB hN=>by
  have:=ABk _ fA kA .nil rfl L8.wt rfl _ rfl L8.few L8.pr 0 jU g cap w1 (ht.below hB) (hm.below hB) hN
  rw[ACD] at this
  exact this)
 clear ht hm
 go_enter func10,ntmps10
 go_upto_region 2 with(go_at_call 7;(with_reducible refine cA.mono ?_);rintro e w1 ⟨g,cap,rfl,hB1,hN1⟩;(have HB1:=hid hB1);(have HN1:=hid hN1);clear cA hB1 hN1)
 have b1:Below w1.heap.size w1 (w1.alloc (.cells #[.int .i64 0,.int .i64 0] 26)):=(z2z _ w1).alloc (z1z _) _
 have d1:=z3z w1 (.cells #[.int .i64 0,.int .i64 0] 26)
 have bb1:=HB1.out.trans (b1.mono HB1.out.size)
 have n1:=HN1.out.below b1
 have cB:=CB.out _ bb1
 have Q1:=hid (z0z d1 (z0z bb1 n1))
 clear b1 d1 bb1 n1 HB1 HN1 CB
 generalize hk1:w1.heap.size=k1 at *
 generalize w1.alloc (.cells #[.int .i64 0,.int .i64 0] 26)=W1 at *
 clear hk1
 go_upto_region 3 with(go_at_call 7;(with_reducible refine cB.mono ?_);rintro e w2 ⟨rfl,hB2⟩;(have HB2:=hid hB2);clear cB hB2)
 have b2:Below w2.heap.size w2 (w2.alloc (.cells #[.int .i64 63,.int .i64 9] 26)):=(z2z _ w2).alloc (z1z _) _
 have d2:=z3z w2 (.cells #[.int .i64 63,.int .i64 9] 26)
 obtain⟨d1,bb1,n1⟩:=Q1.out
 have b12:=HB2.out.trans (b2.mono HB2.out.size)
 have bb2:=bb1.trans (b12.mono bb1.size)
 have d1':=(b12.block k1 (z9z.1 d1).1).trans d1
 have n2:=n1.below b12
 have cS:=CS.out _ g cap bb2 n2
 have Q2:=hid (z0z d1' (z0z d2 (z0z bb2 n2)))
 clear b2 d2 b12 bb2 d1' n2 d1 bb1 n1 Q1 CS HB2
 generalize hk2:w2.heap.size=k2 at *
 generalize w2.alloc (.cells #[.int .i64 63,.int .i64 9] 26)=W2 at *
 clear hk2
 go_upto_region 4 with(go_at_call 18;(with_reducible refine cS.mono ?_);rintro e w3 ⟨v,rfl,hB3,hO3⟩;(have HB3:=hid hB3);(have HO3:=hid hO3);clear cS hB3 hO3)
 obtain⟨d1,d2,bb2,n2⟩:=Q2.out
 have d1':=(HB3.out.block k1 (z9z.1 d1).1).trans d1
 have d2':=(HB3.out.block k2 (z9z.1 d2).1).trans d2
 have bb3:=bb2.trans (HB3.out.mono bb2.size)
 have n3:=n2.below HB3.out
 have cR:=CR.out w3 g cap bb3 n3
 obtain⟨gs,cs,rfl,o1,o2,o3⟩:=kR HO3.out
 have e0:=cell_of_row _ _ 0 _ _ _ d1'
 have e1:=cell_of_row _ _ 1 _ _ _ d1'
 have f0:=cell_of_row _ _ 0 _ _ _ d2'
 have f1:=cell_of_row _ _ 1 _ _ _ d2'
 simp only[z4z,z5z,z6z] at e0 e1 f0 f1
 have BB3:=hid bb3
 clear d1 d2 d1' d2' bb2 n2 bb3 n3 Q2 HB3 HO3 CR
 go_wp2_with (go_at_call 8;(with_reducible refine cR.mono ?_);rintro e w4 ⟨rfl,hB4⟩;(have p1:=(hB4.cell (p:=⟨gs,0,none⟩) o3).trans o1);(have p2:=(hB4.cell (p:=⟨gs,1,none⟩) o3).trans o2);(have HB4:=hid (BB3.out.trans (hB4.mono BB3.out.size)));clear cR hB4 o1 o2)
 go_ret
 exact⟨rfl,HB4.out⟩
end Go.Proofs.YtjplieobnknnpaaGreatDoor.W.Tr
