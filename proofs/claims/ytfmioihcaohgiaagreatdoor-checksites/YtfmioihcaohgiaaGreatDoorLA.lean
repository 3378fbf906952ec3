import Derived.Test.YtfmioihcaohgiaaGreatDoorKV
import Derived.Test.YtfmioihcaohgiaaGreatDoorKY
import Derived.Test.YtfmioihcaohgiaaGreatDoorKZ
import Derived.Test.YtfmioihcaohgiaaGreatDoorKA
open List renaming getElem?_toArray → z4z, getElem?_cons_zero → z5z, getElem?_cons_succ → z6z, getElem?_eq_some_iff → z10z, take_prefix → z11z, mem_singleton → z12z, eq_nil_of_length_eq_zero → z13z, pairwise_iff_getElem → z14z
open Array renaming getElem?_eq_some_iff → z9z
open Nat renaming le_refl → z1z
open Go.World renaming alloc_heap_new → z3z, size_alloc → z7z
open Go.RowKit.Below renaming refl → z2z, heap_setCell → z8z
open And renaming intro → z0z
open Go.Proofs.Tryz
set_option maxRecDepth 1000000
set_option maxHeartbeats 8000000
namespace Go.Proofs.YtfmioihcaohgiaaGreatDoor.W.Tr
open Go.ChangeShapes Go.WideShapes Go.RowKit Go.Shelf Go.ChangeMaps Ck
set_option linter.unusedVariables false
set_option linter.unusedSimpArgs false
theorem prgd{L:List (Nd × Nat)}{res:List UInt8}{fuel:Nat}(h1:isT L=true)(h2:∀p ∈ L,NdOk p/\0<=p.1.bits/\p.1.bits<18446744073709551616)(h3:prF (tkN flP) L fuel [tK] 0 []=some res):PrGd L:=⟨⟨res.toArray⟩,λw g cap hN hg hT hM=>print_all w _ L hN (λk e=>by simp only[Value.ownBlock] at e;cases e;exact hg) h1 h2 fuel res h3 hT hM⟩
theorem load_ret{fn:Func}{p q:Tmp}(h:fn.results = #[.tmp p,.cell q 26])(tmps:Array Value)(w:World)(b3:Nat)(v c a:Value)(fr:Nat × Nat)(hp:tmps.getD p undef=v)(hq:tmps.getD q undef=.pointer (some ⟨b3,0,none⟩))(hg3:w.heap[b3]? = some (.cells #[c,a] 26 fr)):(results fn tmps).run prog w=.ok (.tuple #[v,.agg #[c,a]]) w:=by
 obtain⟨d,hu,hd⟩:=ftT
 have hl:=run_loadVar_row (P:=prog) w b3 26 26 #[c,a] fr d hg3 hu (by cases d <;> first|rfl|exact hd) (by rw[ftSz];rfl)
 have hp':tmps[p]?.getD undef=v:=by simpa using hp
 have hq':tmps[q]?.getD undef=.pointer (some ⟨b3,0,none⟩):=by simpa using hq
 simp[results,h,hp',hq',asAddr,hl]
def LdB(s:ByteArray)(x y:Int):Prop:=∀w,Tabs w->MarksIn w->Calls prog 8 #[.string s] w λe w'=>e=.returned (.tuple #[.slice none 0 0,.agg #[.int .i64 x,.int .i64 y]])/\Below w.heap.size w w'
def LdG(s:ByteArray)(L:List (Nd × Nat)):Prop:=∀w,Tabs w->MarksIn w->Calls prog 8 #[.string s] w λe w'=>∃g cap,e=.returned (.tuple #[.slice (some ⟨g,0,none⟩) L.length cap,.agg #[.int .i64 0,.int .i64 0]])/\Below w.heap.size w w'/\NodesIn w' (.slice (some ⟨g,0,none⟩) L.length cap) L
theorem load_perr(s:ByteArray)(hs:s.size<=1000000){f:Flt}(h:Ends s.data.toList (.error f))(hf:f.1≠0):LdB s f.1 f.2:=by
 intro w ht hm
 have b0:Below w.heap.size w (w.alloc (.cells #[.int .i64 0,.int .i64 0] 26)):=(z2z _ w).alloc (z1z _) _
 have g0:=z3z w (.cells #[.int .i64 0,.int .i64 0] 26)
 have hs0:(w.alloc (.cells #[.int .i64 0,.int .i64 0] 26)).heap.size=w.heap.size+1:=z7z ..
 obtain⟨x,y⟩:=f
 simp only at hf
 have cP:Calls prog 14 #[.string s] (w.alloc (.cells #[.int .i64 0,.int .i64 0] 26)) λe w'=>e=.returned (.tuple #[.slice none 0 0,.agg #[.int .i64 x,.int .i64 y]])/\Below (w.alloc (.cells #[.int .i64 0,.int .i64 0] 26)).heap.size (w.alloc (.cells #[.int .i64 0,.int .i64 0] 26)) w':=parse_bad s hs _ (ht.below b0) (hm.below b0) h
 have c1:(x==0)=false:=by simpa using hf
 have c2:(x != 0)=true:=by simpa using hf
 have HB0:=hid (z0z b0 (z0z g0 hs0))
 clear b0 g0 hs0 ht hm h hf hs
 go_enter func8,ntmps8
 go_upto_region 5 with(go_at_call 14;(with_reducible refine cP.mono ?_);rintro e w1 ⟨rfl,hB1⟩;(have HB1:=hid hB1);clear hB1 cP)
 have b1:Below w1.heap.size w1 (w1.alloc (.cells #[.int .i64 x,.int .i64 y] 26)):=(z2z _ w1).alloc (z1z _) _
 have d1:=z3z w1 (.cells #[.int .i64 x,.int .i64 y] 26)
 obtain⟨b0,g0,hs0⟩:=HB0.out
 have s1:=HB1.out.size
 have g1:=(b1.block w.heap.size (by omega)).trans ((HB1.out.block w.heap.size (by omega)).trans g0)
 have bb:=b0.trans ((HB1.out.mono (by omega)).trans (b1.mono (by omega)))
 generalize w1.alloc (.cells #[.int .i64 x,.int .i64 y] 26)=W2 at *
 have e0:=cell_of_row _ _ 0 _ _ _ g1
 have e1:=cell_of_row _ _ 1 _ _ _ g1
 have z0:=thaw g1 0
 have z1:=thaw g1 1
 have x0:=cell_of_row _ _ 0 _ _ _ d1
 have x1:=cell_of_row _ _ 1 _ _ _ d1
 simp only[z4z,z5z,z6z] at e0 e1 x0 x1
 have G1:=hid g1
 have BB:=hid bb
 clear g1 bb b0 g0 hs0 s1 b1 d1 HB0 HB1
 go_region
 try go_wp2
 try rw[Exit.noGoto_ret]
 refine bodyPost_ret (P:=prog) (fn:=Tryz.f8) (load_ret rfl _ _ w.heap.size _ _ _ (0,0) rfl rfl (two_cells G1.out _ _)) rfl ?_
 exact⟨rfl,((BB.out.setCell (p:=⟨w.heap.size,0,none⟩) (z1z _) _).setCell (p:=⟨w.heap.size,1,none⟩) (z1z _) _).drew⟩
theorem NodesIn.set{w:World}{g n cap:Nat}{L:List (Nd × Nat)}(h:NodesIn w (.slice (some ⟨g,0,none⟩) n cap) L){b:Nat}(hb:b≠g)(o:Nat)(v:Value):NodesIn (w.setCell ⟨b,o,none⟩ v) (.slice (some ⟨g,0,none⟩) n cap) L:=by
 obtain⟨g',cap',e,h1,h2,h3⟩:=h
 simp only[Value.slice.injEq,Option.some.injEq,Addr.mk.injEq,true_and,and_true] at e
 obtain⟨rfl,rfl,rfl⟩:=e
 exact⟨g,cap,rfl,by simpa using h1,h2,λi p hp j hj=>(World.cell?_setCell_far w ⟨b,o,none⟩ ⟨g,_,none⟩ v hb).trans (h3 i p hp j hj)⟩
theorem pagd{s:ByteArray}(hs:s.size<=1000000){fo:Fo}{s':Cs}(h:Ends s.data.toList (.ok (fo,s')))(w:World)(hT:Tabs w)(hM:MarksIn w):Calls prog 14 #[.string s] w λe w'=>∃g cap,e=.returned (.tuple #[.slice (some ⟨g,0,none⟩) (rowF fo).length cap,.agg #[.int .i64 0,.int .i64 0]])/\Below w.heap.size w w'/\NodesIn w' (.slice (some ⟨g,0,none⟩) (rowF fo).length cap) (rowF fo)/\w.heap.size<=g:=by
 have hfew:=h.few
 obtain⟨nd,md,hf⟩:∃nd m,fo=Fo.one nd m:=by obtain⟨n,h⟩:=h;exact pg_form' n _ _ _ _ h
 have hpos:0<(rowF fo).length:=by rw[hf];simp[Fo.one,rowF]
 refine(parse_good s hs w hT hM h).mono ?_
 rintro e w' ⟨r,rfl,hB,ho⟩
 have hnr:=nr_of ho hpos (by omega)
 obtain⟨g,cap,rfl,_⟩:=id hnr
 exact⟨g,cap,rfl,hB,nr_nodes hnr (ho.lt g rfl).2,(ho.lt g rfl).1⟩
section
variable (s:ByteArray) (hs:s.size<=1000000) (n:Nd) (u:Fo) (hn1:n.kind=1) (hw:Wt .us u) (L:List (Nd × Nat)) (hL:rowF (.cons n u .nil)=L) (hfew:L.length<=100000) (hpr:PrGd L) {s':Cs} (h:Ends s.data.toList (.ok (.cons n u .nil,s')))
include hs hn1 hw hL hfew hpr h
theorem load_cerr(x y:Int)(hf:x≠0)(hp:checkP arP 64 (.cons n u .nil)=some (x,y)):LdB s x y:=by
 intro w ht hm
 have b0:Below w.heap.size w (w.alloc (.cells #[.int .i64 0,.int .i64 0] 26)):=(z2z _ w).alloc (z1z _) _
 have g0:=z3z w (.cells #[.int .i64 0,.int .i64 0] 26)
 have hs0:(w.alloc (.cells #[.int .i64 0,.int .i64 0] 26)).heap.size=w.heap.size+1:=z7z ..
 have cP:=pagd hs h (w.alloc (.cells #[.int .i64 0,.int .i64 0] 26)) (ht.below b0) (hm.below b0)
 rw[hL] at cP
 have CC:=hid (show ∀w1 w2 g cap,Below (w.alloc (.cells #[.int .i64 0,.int .i64 0] 26)).heap.size (w.alloc (.cells #[.int .i64 0,.int .i64 0] 26)) w1->NodesIn w1 (.slice (some ⟨g,0,none⟩) L.length cap) L->w2=w1.alloc (.cells #[.int .i64 0,.int .i64 0] 26)->Calls prog 15 #[(.slice (some ⟨g,0,none⟩) L.length cap)] w2 λe w'=>e=.returned (.agg #[.int .i64 x,.int .i64 y])/\Below w2.heap.size w2 w' from λw1 w2 g cap hB hN e=>by
  subst e
  have hB2:Below w1.heap.size w1 (w1.alloc (.cells #[.int .i64 0,.int .i64 0] 26)):=(z2z _ w1).alloc (z1z _) _
  have hB3:=b0.trans ((hB.mono (by omega)).trans (hB2.mono (by have:=hB.size;omega)))
  exact check_c n u hn1 hw L hL hfew hpr (x,y) hp g cap (w1.alloc (.cells #[.int .i64 0,.int .i64 0] 26)) (ht.below hB3) (hm.below hB3) (hN.below hB2))
 have c1:(x != 0)=true:=by simpa using hf
 have HB0:=hid (z0z b0 (z0z g0 hs0))
 clear b0 g0 hs0 ht hm h hf hs hp hpr hfew hL hw hn1
 go_enter func8,ntmps8
 go_upto_region 3 with(go_at_call 14;(with_reducible refine cP.mono ?_);rintro e w1 ⟨g,cap,rfl,hB1,hN1,hG1⟩;(have HB1:=hid hB1);(have HN1:=hid hN1);(have HG1:=hid hG1);clear hB1 hN1 hG1 cP)
 have cC:=CC.out w1 _ g cap HB1.out HN1.out rfl
 have b1:Below w1.heap.size w1 (w1.alloc (.cells #[.int .i64 0,.int .i64 0] 26)):=(z2z _ w1).alloc (z1z _) _
 have d1:=z3z w1 (.cells #[.int .i64 0,.int .i64 0] 26)
 obtain⟨b0,g0,hs0⟩:=HB0.out
 have s1:=HB1.out.size
 have hs2:(w1.alloc (.cells #[.int .i64 0,.int .i64 0] 26)).heap.size=w1.heap.size+1:=z7z ..
 have g1:=(b1.block w.heap.size (by omega)).trans ((HB1.out.block w.heap.size (by omega)).trans g0)
 have bb:=b0.trans ((HB1.out.mono (by omega)).trans (b1.mono (by omega)))
 have Q:=hid (z0z d1 (z0z g1 (z0z bb (z0z hs2 (z0z s1 hs0)))))
 clear d1 g1 bb hs2 s1 hs0 b0 g0 b1 HB0 HB1 HN1 HG1 CC
 generalize hk1:w1.heap.size=k1 at *
 generalize w1.alloc (.cells #[.int .i64 0,.int .i64 0] 26)=W2 at *
 go_upto_region 4 with(go_at_call 15;(with_reducible refine cC.mono ?_);rintro e w3 ⟨rfl,hB3⟩;(have q3:=(hB3.block _ (by have:=Q.out.2.2.2.1;omega)).trans Q.out.1);(have e0:=cell_of_row _ _ 0 _ _ _ q3);(have e1:=cell_of_row _ _ 1 _ _ _ q3);(have z0:=thaw q3 0);(have z1:=thaw q3 1);(simp only[z4z,z5z,z6z] at e0 e1);(have HB3:=hid hB3);(have Q3:=hid q3);clear cC hB3 q3)
 clear e0 e1 z0 z1
 obtain⟨d1,g1,bb,hs2,s1,hs0⟩:=Q.out
 have d3:((w3.setCell ⟨k1,0,none⟩ (.int .i64 x)).setCell ⟨k1,1,none⟩ (.int .i64 y)).heap[k1]? = some (.cells #[.int .i64 x,.int .i64 y] 26 (0,0)):=two_cells Q3.out _ _
 have g3:((w3.setCell ⟨k1,0,none⟩ (.int .i64 x)).setCell ⟨k1,1,none⟩ (.int .i64 y)).heap[w.heap.size]? = some (.cells #[.int .i64 0,.int .i64 0] 26 (0,0)):=(z8z _ _ _ _ (by show w.heap.size≠k1;omega)).trans ((z8z _ _ _ _ (by show w.heap.size≠k1;omega)).trans ((HB3.out.block _ (by omega)).trans g1))
 have b3:Below w.heap.size w ((w3.setCell ⟨k1,0,none⟩ (.int .i64 x)).setCell ⟨k1,1,none⟩ (.int .i64 y)):=((bb.trans (HB3.out.mono (by omega))).setCell (p:=⟨k1,0,none⟩) (by show w.heap.size<=k1;omega) _).setCell (p:=⟨k1,1,none⟩) (by show w.heap.size<=k1;omega) _
 generalize (w3.setCell ⟨k1,0,none⟩ (.int .i64 x)).setCell ⟨k1,1,none⟩ (.int .i64 y)=W4 at *
 have e0:=cell_of_row _ _ 0 _ _ _ g3
 have e1:=cell_of_row _ _ 1 _ _ _ g3
 have z0:=thaw g3 0
 have z1:=thaw g3 1
 have x0:=cell_of_row _ _ 0 _ _ _ d3
 have x1:=cell_of_row _ _ 1 _ _ _ d3
 simp only[z4z,z5z,z6z] at e0 e1 x0 x1
 have G1:=hid g3
 have BB:=hid b3
 clear g3 b3 d3 d1 g1 bb hs2 s1 hs0 Q Q3 HB3
 go_upto_region 5 with fail
 go_region
 try go_wp2
 try rw[Exit.noGoto_ret]
 refine bodyPost_ret (P:=prog) (fn:=Tryz.f8) (load_ret rfl _ _ w.heap.size _ _ _ (0,0) rfl rfl (two_cells G1.out _ _)) rfl ?_
 exact⟨rfl,((BB.out.setCell (p:=⟨w.heap.size,0,none⟩) (z1z _) _).setCell (p:=⟨w.heap.size,1,none⟩) (z1z _) _).drew⟩
theorem load_ok(y:Int)(hp:checkP arP 64 (.cons n u .nil)=some (0,y)):LdG s L:=by
 intro w ht hm
 have b0:Below w.heap.size w (w.alloc (.cells #[.int .i64 0,.int .i64 0] 26)):=(z2z _ w).alloc (z1z _) _
 have g0:=z3z w (.cells #[.int .i64 0,.int .i64 0] 26)
 have hs0:(w.alloc (.cells #[.int .i64 0,.int .i64 0] 26)).heap.size=w.heap.size+1:=z7z ..
 have cP:=pagd hs h (w.alloc (.cells #[.int .i64 0,.int .i64 0] 26)) (ht.below b0) (hm.below b0)
 rw[hL] at cP
 have CC:=hid (show ∀w1 w2 g cap,Below (w.alloc (.cells #[.int .i64 0,.int .i64 0] 26)).heap.size (w.alloc (.cells #[.int .i64 0,.int .i64 0] 26)) w1->NodesIn w1 (.slice (some ⟨g,0,none⟩) L.length cap) L->w2=w1.alloc (.cells #[.int .i64 0,.int .i64 0] 26)->Calls prog 15 #[(.slice (some ⟨g,0,none⟩) L.length cap)] w2 λe w'=>e=.returned (.agg #[.int .i64 0,.int .i64 y])/\Below w2.heap.size w2 w' from λw1 w2 g cap hB hN e=>by
  subst e
  have hB2:Below w1.heap.size w1 (w1.alloc (.cells #[.int .i64 0,.int .i64 0] 26)):=(z2z _ w1).alloc (z1z _) _
  have hB3:=b0.trans ((hB.mono (by omega)).trans (hB2.mono (by have:=hB.size;omega)))
  exact check_c n u hn1 hw L hL hfew hpr (0,y) hp g cap (w1.alloc (.cells #[.int .i64 0,.int .i64 0] 26)) (ht.below hB3) (hm.below hB3) (hN.below hB2))
 have HB0:=hid (z0z b0 (z0z g0 hs0))
 clear b0 g0 hs0 ht hm h hs hp hpr hfew hL hw hn1
 go_enter func8,ntmps8
 go_upto_region 3 with(go_at_call 14;(with_reducible refine cP.mono ?_);rintro e w1 ⟨g,cap,rfl,hB1,hN1,hG1⟩;(have HB1:=hid hB1);(have HN1:=hid hN1);(have HG1:=hid hG1);clear hB1 hN1 hG1 cP)
 have cC:=CC.out w1 _ g cap HB1.out HN1.out rfl
 have b1:Below w1.heap.size w1 (w1.alloc (.cells #[.int .i64 0,.int .i64 0] 26)):=(z2z _ w1).alloc (z1z _) _
 have d1:=z3z w1 (.cells #[.int .i64 0,.int .i64 0] 26)
 obtain⟨b0,g0,hs0⟩:=HB0.out
 have s1:=HB1.out.size
 have hs2:(w1.alloc (.cells #[.int .i64 0,.int .i64 0] 26)).heap.size=w1.heap.size+1:=z7z ..
 have g1:=(b1.block w.heap.size (by omega)).trans ((HB1.out.block w.heap.size (by omega)).trans g0)
 have bb:=b0.trans ((HB1.out.mono (by omega)).trans (b1.mono (by omega)))
 have n1:=HN1.out.below b1
 have hgl:=z0z (nodes_lt HN1.out) HG1.out
 have Q:=hid (z0z d1 (z0z g1 (z0z bb (z0z hs2 (z0z s1 (z0z hs0 (z0z n1 hgl)))))))
 clear d1 g1 bb hs2 s1 hs0 b0 g0 b1 HB0 HB1 HN1 HG1 CC n1 hgl
 generalize hk1:w1.heap.size=k1 at *
 generalize w1.alloc (.cells #[.int .i64 0,.int .i64 0] 26)=W2 at *
 go_upto_region 4 with(go_at_call 15;(with_reducible refine cC.mono ?_);rintro e w3 ⟨rfl,hB3⟩;(have q3:=(hB3.block _ (by have:=Q.out.2.2.2.1;omega)).trans Q.out.1);(have e0:=cell_of_row _ _ 0 _ _ _ q3);(have e1:=cell_of_row _ _ 1 _ _ _ q3);(have z0:=thaw q3 0);(have z1:=thaw q3 1);(simp only[z4z,z5z,z6z] at e0 e1);(have HB3:=hid hB3);(have Q3:=hid q3);clear cC hB3 q3)
 clear e0 e1 z0 z1
 obtain⟨d1,g1,bb,hs2,s1,hs0,n1,hgl⟩:=Q.out
 have d3:((w3.setCell ⟨k1,0,none⟩ (.int .i64 0)).setCell ⟨k1,1,none⟩ (.int .i64 y)).heap[k1]? = some (.cells #[.int .i64 0,.int .i64 y] 26 (0,0)):=two_cells Q3.out _ _
 have g3:((w3.setCell ⟨k1,0,none⟩ (.int .i64 0)).setCell ⟨k1,1,none⟩ (.int .i64 y)).heap[w.heap.size]? = some (.cells #[.int .i64 0,.int .i64 0] 26 (0,0)):=(z8z _ _ _ _ (by show w.heap.size≠k1;omega)).trans ((z8z _ _ _ _ (by show w.heap.size≠k1;omega)).trans ((HB3.out.block _ (by omega)).trans g1))
 have b3:Below w.heap.size w ((w3.setCell ⟨k1,0,none⟩ (.int .i64 0)).setCell ⟨k1,1,none⟩ (.int .i64 y)):=((bb.trans (HB3.out.mono (by omega))).setCell (p:=⟨k1,0,none⟩) (by show w.heap.size<=k1;omega) _).setCell (p:=⟨k1,1,none⟩) (by show w.heap.size<=k1;omega) _
 have n3:NodesIn ((w3.setCell ⟨k1,0,none⟩ (.int .i64 0)).setCell ⟨k1,1,none⟩ (.int .i64 y)) (.slice (some ⟨g,0,none⟩) L.length cap) L:=((n1.below HB3.out).set (by omega) 0 _).set (by omega) 1 _
 generalize (w3.setCell ⟨k1,0,none⟩ (.int .i64 0)).setCell ⟨k1,1,none⟩ (.int .i64 y)=W4 at *
 have e0:=cell_of_row _ _ 0 _ _ _ g3
 have e1:=cell_of_row _ _ 1 _ _ _ g3
 have z0:=thaw g3 0
 have z1:=thaw g3 1
 have x0:=cell_of_row _ _ 0 _ _ _ d3
 have x1:=cell_of_row _ _ 1 _ _ _ d3
 simp only[z4z,z5z,z6z] at e0 e1 x0 x1
 have G1:=hid g3
 have BB:=hid b3
 have N3:=hid (n3.set (b:=w.heap.size) (by omega))
 have H9:=hid (z0z hgl hs0)
 clear g3 b3 d3 d1 g1 bb hs2 s1 hs0 Q Q3 HB3 n1 hgl n3
 go_wp2
 refine bodyPost_ret (P:=prog) (fn:=Tryz.f8) (load_ret rfl _ _ w.heap.size _ _ _ (0,0) rfl rfl (two_cells G1.out _ _)) rfl ?_
 refine⟨g,cap,rfl,(BB.out.setCell (p:=⟨w.heap.size,0,none⟩) (z1z _) _).setCell (p:=⟨w.heap.size,1,none⟩) (z1z _) _,?_⟩
 exact(N3.out 0 _).set (by have:=H9.out;omega) 1 _
end
structure Rd (l:List UInt8) (u:Fo):Prop where
 ends:∃s',Ends l (.ok (.cons ⟨1,0,⟨#[]⟩,0,0⟩ u .nil,s'))
 wt:Wt .us u
 pr:PrGd (rowF (.cons ⟨1,0,⟨#[]⟩,0,0⟩ u .nil))
 few:(rowF (.cons ⟨1,0,⟨#[]⟩,0,0⟩ u .nil)).length<=100000
theorem rd_of{l:List UInt8}(hl:l.length<=6000){fo:Fo}{s':Cs}(h:Ends l (.ok (fo,s'))):∃u,fo=.cons ⟨1,0,⟨#[]⟩,0,0⟩ u .nil/\Rd l u:=by
 obtain⟨u,hu,h1,h2,⟨fuel,h3⟩⟩:=round_half l hl h
 have hfew:=h.few
 obtain⟨n,hn⟩:=id h
 rw[src_T l (by omega)] at hn
 obtain⟨hT,_⟩:=T_has l.length l 0 (z1z _) hl
 obtain⟨⟨u',hu',hw⟩,_⟩:=wt_P n (.pg .nil) ⟨T l 0,0⟩ (λy hy c=>(hT y hy).2 c) Wt.unil fo s' hn
 have e:u'=u:=by rw[hu] at hu';cases hu';rfl
 subst e
 have hu2:fo=.cons ⟨1,0,⟨#[]⟩,0,0⟩ u' .nil:=hu
 subst hu2
 exact⟨u',rfl,⟨s',h⟩,hw,prgd h1 h2 h3,by omega⟩
def ckP(mr:Int)(u:Fo):Option (Int × Int):=checkP arP mr (.cons ⟨1,0,⟨#[]⟩,0,0⟩ u .nil)
def rowU(u:Fo):List (Nd × Nat):=rowF (.cons ⟨1,0,⟨#[]⟩,0,0⟩ u .nil)
theorem ck_some(mr:Int){u:Fo}(hw:Wt .us u):∃r,ckP mr u=some r:=check_some arP mr hw _ rfl
theorem Rd.bad{s:ByteArray}{u:Fo}(h:Rd s.data.toList u)(hs:s.size<=1000000){x y:Int}(hx:x≠0)(hc:ckP 64 u=some (x,y)):LdB s x y:=by
 obtain⟨s',he⟩:=h.ends
 exact load_cerr s hs _ u rfl h.wt _ rfl h.few h.pr he x y hx hc
theorem Rd.good{s:ByteArray}{u:Fo}(h:Rd s.data.toList u)(hs:s.size<=1000000){y:Int}(hc:ckP 64 u=some (0,y)):LdG s (rowU u):=by
 obtain⟨s',he⟩:=h.ends
 exact load_ok s hs _ u rfl h.wt _ rfl h.few h.pr he y hc
theorem load_any(s:ByteArray)(hs:s.size<=6000):(∃x y,x≠0/\LdB s x y)\/∃u y,Rd s.data.toList u/\ckP 64 u=some (0,y)/\LdG s (rowU u):=by
 have sl:=size_list s
 obtain⟨r,hr⟩:=ends s.data.toList
 cases r with
 | error f=>exact .inl ⟨f.1,f.2,ends_code hr,load_perr s (by omega) hr (ends_code hr)⟩
 | ok p=>
  obtain⟨fo,s'⟩:=p
  obtain⟨u,rfl,hR⟩:=rd_of (by rw[sl];exact hs) hr
  obtain⟨⟨x,y⟩,hc⟩:=ck_some 64 hR.wt
  by_cases hx:x=0
  ·subst hx
   exact .inr ⟨u,y,hR,hc,hR.good (by omega) hc⟩
  ·exact .inl ⟨x,y,hx,hR.bad (by omega) hx hc⟩
theorem mk_rd{l:List UInt8}{n:Nat}{u:Fo}(hl:l.length<=6000)(h:isOk (P n (.pg .nil) ⟨srcY l,0⟩)=some (.cons ⟨1,0,⟨#[]⟩,0,0⟩ u .nil)):Rd l u:=by
 cases e:P n (.pg .nil) ⟨srcY l,0⟩ with
 | none=>rw[e] at h;cases h
 | some r=>
  rw[e] at h
  match r,h,e with
  | .error _,h,e=>cases h
  | .ok (f,s'),h,e=>
   have hf:f=.cons ⟨1,0,⟨#[]⟩,0,0⟩ u .nil:=Option.some.inj h
   subst hf
   obtain⟨u',hu,hR⟩:=rd_of hl ⟨n,e⟩
   cases hu
   exact hR
abbrev aS:ByteArray:=⟨#[102,110,32,102,40,97,44,32,98,41,32,123,32,114,101,116,117,114,110,32,97,32,43,32,98,32,42,32,102,40,97,44,32,49,41,59,32,125]⟩
abbrev bS:ByteArray:=⟨#[102,110,32,102,40,41,32,123,32,120,32,61,32,49,59,32,125]⟩
abbrev fA:Nd:=⟨3,3,⟨#[102]⟩,0,0⟩
abbrev kA:Fo:=.cons ⟨4,5,⟨#[97]⟩,0,0⟩ .nil (.cons ⟨4,8,⟨#[98]⟩,0,0⟩ .nil (.cons ⟨5,11,⟨#[]⟩,0,0⟩ (.cons ⟨15,13,⟨#[]⟩,0,0⟩
 (.cons ⟨21,22,⟨#[43]⟩,0,0⟩ (.cons ⟨25,20,⟨#[97]⟩,0,0⟩ .nil (.cons ⟨21,26,⟨#[42]⟩,0,0⟩ (.cons ⟨25,24,⟨#[98]⟩,0,0⟩ .nil (.cons ⟨23,28,⟨#[102]⟩,0,0⟩ (.cons ⟨25,30,⟨#[97]⟩,0,0⟩ .nil (.cons ⟨26,33,⟨#[]⟩,1,0⟩ .nil .nil)) .nil)) .nil)) .nil) .nil) .nil))
abbrev uA:Fo:=.cons fA kA .nil
abbrev uB:Fo:=.cons fA (.cons ⟨5,7,⟨#[]⟩,0,0⟩ (.cons ⟨7,9,⟨#[120]⟩,0,0⟩ (.cons ⟨26,13,⟨#[]⟩,1,0⟩ .nil .nil) .nil) .nil) .nil
theorem rdA:Rd aS.data.toList uA:=mk_rd (n:=60) (by decide) (by kernel_rfl)
theorem rdB:Rd bS.data.toList uB:=mk_rd (n:=60) (by decide) (by kernel_rfl)
theorem ckA:ckP 64 uA=some (0,0):=by kernel_rfl
theorem ckA2:ckP 9223372036854775807 uA=some (0,0):=by kernel_rfl
theorem ckB:ckP 64 uB=some (63,9):=by kernel_rfl
theorem regA:regsF fA kA=6:=by kernel_rfl
theorem siteA:srt (sitesP (rowU uA))=[22,26]:=by
 have h:sitesP (rowU uA)=[22,26]:=by kernel_rfl
 rw[h]
 simp[srt,List.mergeSort]
theorem oz_two{w:World}{B:Nat}{v:Value}{x y:Int}(h:OZ w B v [x,y]):∃g cap,v=.slice (some ⟨g,0,none⟩) 2 cap/\w.cell? ⟨g,0,none⟩=some (.int .i64 x)/\w.cell? ⟨g,1,none⟩=some (.int .i64 y)/\g<w.heap.size:=by
 rcases h.2 with⟨_,e⟩|⟨g,cap,cur,rfl,h1,h2,h3,h4,h5,h6⟩
 ·cases e
 ·have k:∀j z,[ivz x,ivz y][j]? = some z->w.cell? ⟨g,j,none⟩=some z:=by
   intro j z hj
   rw[cell_of_row w g j _ _ _ h2]
   have e1:(cur.toList.take (2*1))[j]? = ([x,y].map ivz)[j]?:=by rw[<- h6];rfl
   have hj2:j<2:=(z10z.1 hj).1
   rw[List.getElem?_take,if_pos (by omega),Array.getElem?_toList] at e1
   rw[e1]
   exact hj
  exact⟨g,cap,rfl,k 0 _ rfl,k 1 _ rfl,(z9z.1 h2).1⟩
theorem awake13_c(w:World)(ht:Tabs w)(hm:MarksIn w):Calls prog 11 #[] w λe w'=>e=.returned (.bool true)/\Below w.heap.size w w':=by
 have cA:=rdA.good (by decide) ckA w ht hm
 have CB:=hid (show ∀w1,Below w.heap.size w w1->Calls prog 8 #[.string bS] w1 λe w'=>e=.returned (.tuple #[.slice none 0 0,.agg #[.int .i64 63,.int .i64 9]])/\Below w1.heap.size w1 w' from λw1 hB=>rdB.bad (by decide) (by decide) ckB w1 (ht.below hB) (hm.below hB))
 have CS:=hid (show ∀w1 g cap,Below w.heap.size w w1->NodesIn w1 (.slice (some ⟨g,0,none⟩) (rowU uA).length cap) (rowU uA)->Calls prog 13 #[(.slice (some ⟨g,0,none⟩) (rowU uA).length cap)] w1 λe w'=>∃v,e=.returned v/\Below w1.heap.size w1 w'/\OZ w' w1.heap.size v [22,26] from λw1 g cap hB hN=>by
  have:=sites_c _ uA rfl rdA.wt _ rfl rdA.few rdA.pr 0 ckA g cap w1 (ht.below hB) (hm.below hB) hN
  rw[<- siteA]
  exact this)
 have CR:=hid (show ∀w1 g cap,Below w.heap.size w w1->NodesIn w1 (.slice (some ⟨g,0,none⟩) (rowU uA).length cap) (rowU uA)->Calls prog 9 #[(.slice (some ⟨g,0,none⟩) (rowU uA).length cap),.string ⟨#[102]⟩] w1 λe w'=>e=.returned (.int .i64 6)/\Below w1.heap.size w1 w' from λw1 g cap hB hN=>by
  have:=regs_first _ fA kA .nil rfl rdA.wt rfl _ rfl rdA.few rdA.pr 0 ckA2 g cap w1 (ht.below hB) (hm.below hB) hN
  rw[regA] at this
  exact this)
 clear ht hm
 go_enter func11,ntmps11
 go_upto_region 2 with(go_at_call 8;(with_reducible refine cA.mono ?_);rintro e w1 ⟨g,cap,rfl,hB1,hN1⟩;(have HB1:=hid hB1);(have HN1:=hid hN1);clear cA hB1 hN1)
 have b1:Below w1.heap.size w1 (w1.alloc (.cells #[.int .i64 0,.int .i64 0] 26)):=(z2z _ w1).alloc (z1z _) _
 have d1:=z3z w1 (.cells #[.int .i64 0,.int .i64 0] 26)
 have bb1:=HB1.out.trans (b1.mono HB1.out.size)
 have n1:=HN1.out.below b1
 have cB:=CB.out _ bb1
 have Q1:=hid (z0z d1 (z0z bb1 n1))
 clear b1 d1 bb1 n1 HB1 HN1 CB
 generalize hk1:w1.heap.size=k1 at *
 generalize w1.alloc (.cells #[.int .i64 0,.int .i64 0] 26)=W1 at *
 clear hk1
 go_upto_region 3 with(go_at_call 8;(with_reducible refine cB.mono ?_);rintro e w2 ⟨rfl,hB2⟩;(have HB2:=hid hB2);clear cB hB2)
 have b2:Below w2.heap.size w2 (w2.alloc (.cells #[.int .i64 63,.int .i64 9] 26)):=(z2z _ w2).alloc (z1z _) _
 have d2:=z3z w2 (.cells #[.int .i64 63,.int .i64 9] 26)
 obtain⟨d1,bb1,n1⟩:=Q1.out
 have b12:=HB2.out.trans (b2.mono HB2.out.size)
 have bb2:=bb1.trans (b12.mono bb1.size)
 have d1':=(b12.block k1 (z9z.1 d1).1).trans d1
 have n2:=n1.below b12
 have cS:=CS.out _ g cap bb2 n2
 have Q2:=hid (z0z d1' (z0z d2 (z0z bb2 n2)))
 clear b2 d2 b12 bb2 d1' n2 d1 bb1 n1 Q1 CS HB2
 generalize hk2:w2.heap.size=k2 at *
 generalize w2.alloc (.cells #[.int .i64 63,.int .i64 9] 26)=W2 at *
 clear hk2
 go_upto_region 4 with(go_at_call 13;(with_reducible refine cS.mono ?_);rintro e w3 ⟨v,rfl,hB3,hO3⟩;(have HB3:=hid hB3);(have HO3:=hid hO3);clear cS hB3 hO3)
 obtain⟨d1,d2,bb2,n2⟩:=Q2.out
 have d1':=(HB3.out.block k1 (z9z.1 d1).1).trans d1
 have d2':=(HB3.out.block k2 (z9z.1 d2).1).trans d2
 have bb3:=bb2.trans (HB3.out.mono bb2.size)
 have n3:=n2.below HB3.out
 have cR:=CR.out w3 g cap bb3 n3
 obtain⟨gs,cs,rfl,o1,o2,o3⟩:=oz_two HO3.out
 have e0:=cell_of_row _ _ 0 _ _ _ d1'
 have e1:=cell_of_row _ _ 1 _ _ _ d1'
 have f0:=cell_of_row _ _ 0 _ _ _ d2'
 have f1:=cell_of_row _ _ 1 _ _ _ d2'
 simp only[z4z,z5z,z6z] at e0 e1 f0 f1
 have BB3:=hid bb3
 clear d1 d2 d1' d2' bb2 n2 bb3 n3 Q2 HB3 HO3 CR
 go_wp2_with (go_at_call 9;(with_reducible refine cR.mono ?_);rintro e w4 ⟨rfl,hB4⟩;(have p1:=(hB4.cell (p:=⟨gs,0,none⟩) o3).trans o1);(have p2:=(hB4.cell (p:=⟨gs,1,none⟩) o3).trans o2);(have HB4:=hid (BB3.out.trans (hB4.mono BB3.out.size)));clear cR hB4 o1 o2)
 go_ret
 exact⟨rfl,HB4.out⟩
section
variable (φ:Int->ByteArray->Nat)
def nw(n:Nd):Nat:=if n.kind=21 then φ n.a n.text else 0
def fw:Fo->Nat
 | .nil=>0
 | .cons n ks r=>nw φ n+(fw ks+fw r)
def yw(y:Yd):Nat:=if y.t.kind=2\/y.t.kind=3 then φ y.a y.t.text else 0
def cw(s:Cs):Nat:=(s.r.map (yw φ)).sum
theorem fw_nil:fw φ .nil=0:=rfl
theorem fw_cons(n:Nd)(k r:Fo):fw φ (.cons n k r)=nw φ n+(fw φ k+fw φ r):=rfl
theorem fw_one(n:Nd)(k:Fo):fw φ (Fo.one n k)=nw φ n+fw φ k:=by simp[Fo.one,fw]
theorem fw_app:∀f g:Fo,fw φ (f.app g)=fw φ f+fw φ g
 | .nil,g=>by simp[Fo.app,fw]
 | .cons n ks r,g=>by simp only[Fo.app,fw,fw_app r g];omega
theorem nw_at(k:Int)(y:Yd)(h:k≠21):nw φ (atN k y)=0:=if_neg h
theorem nw_of(k:Int)(y:Yd)(h:k≠21):nw φ (ofN k y)=0:=if_neg h
theorem nw_mk(k a:Int)(t:ByteArray)(i b:Int)(h:k≠21):nw φ ⟨k,a,t,i,b⟩=0:=if_neg h
section
variable {φ} {s:Cs} {y:Yd}
theorem cw_take(h:look s=.ok y):yw φ y+cw φ (behind y s)=cw φ s:=by
 have e:=(look_mem h).2.2
 unfold cw behind
 conv=>rhs;rw[e]
 simp
theorem Wx.take{Q:Yd->Cs->Prop}(h:∀y s',Tr.look s=.ok y->yw φ y+cw φ s'=cw φ s->Q y s'):Wp takeM s Q:=by
 intro b s2 e
 unfold takeM at e
 cases hl:Tr.look s with
 | error _=>rw[hl] at e;cases e
 | ok y=>rw[hl] at e;cases e;exact h _ _ hl (cw_take hl)
theorem Wx.taken{Q:Yd->Cs->Prop}(h:∀y s',cw φ s'<=cw φ s->Q y s'):Wp takeM s Q:=Wx.take (φ:=φ) λy s' _ e=>h y s' (by omega)
theorem Wx.want{t:ByteArray}{Q:Yd->Cs->Prop}(h:∀y s',cw φ s'<=cw φ s->Q y s'):Wp (wantM t) s Q:=
 Wp.bind (Wp.look λy=>Wp.ite (λ_=>Wx.taken (φ:=φ) h) (λ_=>Wp.fail))
theorem Wx.name{Q:Yd->Cs->Prop}(h:∀y s',cw φ s'<=cw φ s->Q y s'):Wp nameM s Q:=
 Wp.bind (Wp.look λy=>Wp.ite (λ_=>Wx.taken (φ:=φ) h) (λ_=>Wp.fail))
theorem fixed_yw(h:fixedT y.t≠⟨#[]⟩):nw φ (ofN 21 y)=yw φ y:=by
 unfold fixedT at h
 by_cases c:y.t.kind=2\/y.t.kind=3
 ·rw[yw,if_pos c];rfl
 ·rw[if_neg c] at h;exact absurd rfl h
end
def baseS:Nt->Nat
 | .exT l=>fw φ l | .cjT l=>fw φ l | .bnT _ l=>fw φ l | .poT l=>fw φ l | .lsT _ l=>fw φ l | .pg l=>fw φ l | .blT l=>fw φ l | .asg n ks=>nw φ n+fw φ ks
 | _=>0
end
def PreK:Nt->Prop
 | .jm k=>k≠21
 | .bnT k _=>0<k
 | .bn k=>0<k
 | _=>True
def PosK(nt:Nt)(a:Fo):Prop:=nt=.wh->∀m ks r,a=.cons m ks r->m.kind=10
theorem comp_ne{t:ByteArray}(h:comp t=true):t≠⟨#[]⟩:=by rintro rfl;exact absurd h (by decide)
theorem tight_ne{t:ByteArray}{k:Nat}(hk:0<k)(h:tight t=k):t≠⟨#[]⟩:=by
 rintro rfl
 have:tight ⟨#[]⟩=0:=by decide
 omega
theorem ops_le(φ:Int->ByteArray->Nat)(n:Nat):∀ (nt:Nt) (s:Cs),PreK nt->Wp (P n nt) s (λa s'=>fw φ a+cw φ s'<=baseS φ nt+cw φ s/\PosK nt a):=by
 induction n with
 | zero=>intro nt s _ a s' e;cases e
 | succ n IH=>
  intro nt s hpre
  have ih:∀ (nt:Nt) (s:Cs) (Q:Fo->Cs->Prop),PreK nt->(∀a s',fw φ a+cw φ s'<=baseS φ nt+cw φ s->PosK nt a->Q a s')->Wp (P n nt) s Q:=λnt s Q hp h a s' e=>h a s' (IH nt s hp a s' e).1 (IH nt s hp a s' e).2
  clear IH
  cases nt with
  | cm=>
   unfold P
   refine Wp.bind (ih (.bn 1) _ _ (show 0<1 by decide) λl s1 h1 _=>?_)
   refine Wp.bind (Wv.look λy hy=>?_)
   refine Wp.ite (λhc=>?_) (λ_=>Wp.pure ⟨h1,nofun⟩)
   refine Wp.bind (Wx.take (φ:=φ) λz s2 hz hw=>?_)
   rw[hy] at hz
   cases hz
   refine Wp.bind (ih (.bn 1) _ _ (show 0<1 by decide) λr s3 h3 _=>Wp.pure ⟨?_,nofun⟩)
   have:=fixed_yw (φ:=φ) (y:=y) (comp_ne hc)
   simp only[baseS,fw_one,fw_app] at *
   omega
  | bnT k l=>
   have hk:0<k:=hpre
   unfold P
   refine Wp.bind (Wv.look λy hy=>?_)
   refine Wp.ite (λhc=>?_) (λ_=>Wp.pure ⟨z1z _,nofun⟩)
   refine Wp.bind (Wx.take (φ:=φ) λz s2 hz hw=>?_)
   rw[hy] at hz
   cases hz
   refine Wp.bind (ih (.bn (k+1)) _ _ (show 0<k+1 by omega) λr s3 h3 _=>?_)
   refine ih (.bnT k _) _ _ hk λa s4 h4 _=>⟨?_,nofun⟩
   have:=fixed_yw (φ:=φ) (y:=y) (tight_ne hk hc)
   simp only[baseS,fw_one,fw_app] at *
   omega
  | bn k=>
   have hk:0<k:=hpre
   unfold P
   refine Wp.ite (λ_=>?_) (λ_=>?_)
   ·exact ih .un _ _ trivial λa s' h _=>⟨h,nofun⟩
   ·refine Wp.bind (ih (.bn (k+1)) _ _ (show 0<k+1 by omega) λl s1 h1 _=>?_)
    refine ih (.bnT k _) _ _ hk λa s4 h4 _=>⟨?_,nofun⟩
    simp only[baseS] at *
    omega
  | jm k=>
   have hk:k≠21:=hpre
   unfold P
   (repeat' (first|(with_reducible refine Wx.want (φ:=φ) ?_;intro _ _ _)|(with_reducible refine Wx.name (φ:=φ) ?_;intro _ _ _)|(with_reducible refine Wp.bind ?_)|(with_reducible refine Wp.look ?_;intro _)|(with_reducible refine Wx.taken (φ:=φ) ?_;intro _ _ _)|(with_reducible refine Wp.st ?_)|(with_reducible exact Wp.fail)|(with_reducible refine Wp.pure ?_)|(with_reducible refine ih _ _ _ (by first|(simp only[PreK];done)|(simp only[PreK];decide)|(split <;> simp only[PreK])) ?_;intro _ _ _ _)|(with_reducible refine Wp.ite ?_ ?_ <;> intro _)))
   all_goals clear ih
   all_goals (refine⟨?_,nofun⟩;simp (disch:=first|exact hk|decide) only[baseS,fw_one,fw_app,fw_nil,fw_cons,nw_at,nw_of,nw_mk] at *;omega)
  | wh=>
   unfold P
   refine Wp.bind (Wx.want (φ:=φ) λy s1 h1=>?_)
   refine Wp.bind (ih .ex _ _ trivial λc s2 h2 _=>?_)
   refine Wp.bind (ih .bl _ _ trivial λb s3 h3 _=>Wp.pure ⟨?_,λ_ m ks r e=>?_⟩)
   ·simp (disch:=decide) only[baseS,fw_one,fw_app,fw_nil,fw_cons,nw_at,nw_of,nw_mk] at *
    omega
   ·cases e;rfl
  | pl=>
   unfold P
   refine Wp.bind (ih .ex _ _ trivial λf s1 h1 _=>?_)
   refine Wp.bind (Wp.look λz=>?_)
   cases f with
   | nil=>(repeat' (first|(with_reducible refine Wx.want (φ:=φ) ?_;intro _ _ _)|(with_reducible refine Wx.name (φ:=φ) ?_;intro _ _ _)|(with_reducible refine Wp.bind ?_)|(with_reducible refine Wp.look ?_;intro _)|(with_reducible refine Wx.taken (φ:=φ) ?_;intro _ _ _)|(with_reducible refine Wp.st ?_)|(with_reducible exact Wp.fail)|(with_reducible refine Wp.pure ?_)|(with_reducible refine ih _ _ _ (by first|(simp only[PreK];done)|(simp only[PreK];decide)|(split <;> simp only[PreK])) ?_;intro _ _ _ _)|(with_reducible refine Wp.ite ?_ ?_ <;> intro _)));clear ih;(refine⟨?_,λe=>?_⟩ <;> first|(cases e;done)|(simp (disch:=decide) only[baseS,fw_one,fw_app,fw_nil,fw_cons,nw_at,nw_of,nw_mk] at *;omega))
   | cons m ks r=>(repeat' (first|(with_reducible refine Wx.want (φ:=φ) ?_;intro _ _ _)|(with_reducible refine Wx.name (φ:=φ) ?_;intro _ _ _)|(with_reducible refine Wp.bind ?_)|(with_reducible refine Wp.look ?_;intro _)|(with_reducible refine Wx.taken (φ:=φ) ?_;intro _ _ _)|(with_reducible refine Wp.st ?_)|(with_reducible exact Wp.fail)|(with_reducible refine Wp.pure ?_)|(with_reducible refine ih _ _ _ (by first|(simp only[PreK];done)|(simp only[PreK];decide)|(split <;> simp only[PreK])) ?_;intro _ _ _ _)|(with_reducible refine Wp.ite ?_ ?_ <;> intro _))) <;> clear ih <;> (refine⟨?_,λe=>?_⟩ <;> first|(cases e;done)|(simp (disch:=decide) only[baseS,fw_one,fw_app,fw_nil,fw_cons,nw_at,nw_of,nw_mk] at *;omega))
  | lb=>
   unfold P
   refine Wp.bind (Wx.name (φ:=φ) λy s1 h1=>?_)
   refine Wp.bind (Wx.want (φ:=φ) λy2 s2 h2=>?_)
   refine Wp.bind (Wp.look λz=>?_)
   refine Wp.ite (λ_=>?_) (λ_=>?_)
   ·refine Wp.bind (ih .fr _ _ trivial λf s3 h3 _=>Wp.pure ?_)
    clear ih
    cases f with
    | nil=>(refine⟨?_,λe=>?_⟩ <;> first|(cases e;done)|(simp (disch:=decide) only[baseS,fw_one,fw_app,fw_nil,fw_cons,nw_at,nw_of,nw_mk] at *;omega))
    | cons m ks r=>(refine⟨?_,λe=>?_⟩ <;> first|(cases e;done)|(simp (disch:=decide) only[baseS,fw_one,fw_app,fw_nil,fw_cons,nw_at,nw_of,nw_mk] at *;omega))
   ·refine Wp.bind (ih .wh _ _ trivial λf s3 h3 h4=>Wp.pure ?_)
    clear ih
    cases f with
    | nil=>(refine⟨?_,λe=>?_⟩ <;> first|(cases e;done)|(simp (disch:=decide) only[baseS,fw_one,fw_app,fw_nil,fw_cons,nw_at,nw_of,nw_mk] at *;omega))
    | cons m ks r=>
     have hm:=h4 rfl m ks r rfl
     have e1:∀ (t:ByteArray),nw φ ⟨m.kind,m.a,t,m.int,m.bits⟩=0:=λt=>nw_mk φ _ _ _ _ _ (by omega)
     refine⟨?_,nofun⟩
     simp only[baseS,fw_cons,e1] at *
     omega
  | _=>
   unfold P
   (repeat' (first|(with_reducible refine Wx.want (φ:=φ) ?_;intro _ _ _)|(with_reducible refine Wx.name (φ:=φ) ?_;intro _ _ _)|(with_reducible refine Wp.bind ?_)|(with_reducible refine Wp.look ?_;intro _)|(with_reducible refine Wx.taken (φ:=φ) ?_;intro _ _ _)|(with_reducible refine Wp.st ?_)|(with_reducible exact Wp.fail)|(with_reducible refine Wp.pure ?_)|(with_reducible refine ih _ _ _ (by first|(simp only[PreK];done)|(simp only[PreK];decide)|(split <;> simp only[PreK])) ?_;intro _ _ _ _)|(with_reducible refine Wp.ite ?_ ?_ <;> intro _)))
   all_goals clear ih
   all_goals (first|(refine⟨?_,λe=>?_⟩ <;> first|(cases e;done)|(simp (disch:=decide) only[baseS,fw_one,fw_app,fw_nil,fw_cons,nw_at,nw_of,nw_mk] at *;omega))|(split at * <;> (refine⟨?_,λe=>?_⟩ <;> first|(cases e;done)|(simp (disch:=decide) only[baseS,fw_one,fw_app,fw_nil,fw_cons,nw_at,nw_of,nw_mk] at *;omega))))
theorem fw_mem(φ:Int->ByteArray->Nat):∀ (f:Fo) (p:Nd × Nat),p ∈ rowF f->nw φ p.1<=fw φ f
 | .nil,p,h=>by simp[rowF] at h
 | .cons n ks r,p,h=>by
  simp only[rowF,List.mem_cons,List.mem_append] at h
  rw[fw_cons]
  rcases h with rfl|h|h
  ·exact Nat.le_add_right _ _
  ·have:=fw_mem φ ks p h;omega
  ·have:=fw_mem φ r p h;omega
def onePl(a:Int):Int->ByteArray->Nat:=λx _=>if x=a then 1 else 0
theorem fw_count(a:Int):∀f:Fo,fw (onePl a) f=(((rowF f).filter λp=>p.1.kind==21).map λp=>p.1.a).count a
 | .nil=>rfl
 | .cons n ks r=>by
  rw[fw_cons,fw_count a ks,fw_count a r,rowF,List.filter_cons,List.filter_append]
  unfold nw onePl
  by_cases h:n.kind=21
  ·by_cases h2:n.a=a
   ·simp[h,h2,List.count_cons];omega
   ·simp[h,h2,List.count_cons]
  ·simp[h]
theorem T_one(a0:Int)(n:Nat):∀ (r:List UInt8) (a:Nat),r.length<=n->((T r a).map (yw (onePl a0))).sum<=1/\(a0<a->((T r a).map (yw (onePl a0))).sum=0):=by
 have no:∀ (a c f:Int),yw (onePl a0) ⟨noTk,a,c,f⟩=0:=λa c f=>rfl
 have ne:∀ (a c f:Int),yw (onePl a0) ⟨endTk,a,c,f⟩=0:=λa c f=>rfl
 induction n with
 | zero=>
  intro r a hr
  have hr0:r=[]:=z13z (by omega)
  subst hr0
  rw[T_nil]
  simp[ne]
 | succ n ih=>
  intro r a hr
  cases r with
  | nil=>exact ih [] a (by simp)
  | cons c r=>
   rw[T_step (by simp)]
   have hle:=piece_le (c::r)
   split
   ·simp[no]
   ·rename_i c1
    have hdl:((c::r).drop (pieceP (c::r)).size).length<=n:=by rw[List.length_drop];simp at hr ⊢;omega
    obtain⟨i1,i2⟩:=ih ((c::r).drop (pieceP (c::r)).size) (a+(pieceP (c::r)).size) hdl
    split
    ·simp[no]
    ·split
     ·simp only[List.map_cons,List.sum_cons]
      by_cases h:(a:Int)=a0
      ·have i3:=i2 (by omega)
       rw[i3]
       have:yw (onePl a0) ⟨(pieceP (c::r)).t,a,0,0⟩<=1:=by unfold yw onePl;split <;> (try split) <;> omega
       refine⟨by omega,λh2=>by omega⟩
      ·have:yw (onePl a0) ⟨(pieceP (c::r)).t,a,0,0⟩=0:=by unfold yw onePl;rw[if_neg h];split <;> rfl
       rw[this]
       exact⟨by omega,λh2=>by have:=i2 (by omega);omega⟩
     ·exact⟨i1,λh2=>i2 (by omega)⟩
def PfxPc(r:List UInt8)(p:Pc):Prop:=p.t.kind=2\/p.t.kind=3->p.t.text.data.toList <+: r
theorem pfx_or{r:List UInt8}{a b:Pc}(ha:PfxPc r a)(hb:PfxPc r b):PfxPc r (orPc a b):=by
 unfold orPc
 split
 ·exact hb
 ·exact ha
theorem pfx_ne{r:List UInt8}{p:Pc}(h:¬ (p.t.kind=2\/p.t.kind=3)):PfxPc r p:=λe=>absurd e h
theorem quote_nk:∀ (f:Nat) (r:List UInt8) (k:Nat) (acc:List UInt8),¬ ((quoteGo f r k acc).t.kind=2\/(quoteGo f r k acc).t.kind=3)
 | 0,r,k,acc=>by unfold quoteGo;exact(show ¬ ((0:Int)=2\/(0:Int)=3) by decide)
 | f+1,[],k,acc=>by rw[quote_end];exact(show ¬ ((0:Int)=2\/(0:Int)=3) by decide)
 | f+1,c::q,k,acc=>by
  by_cases c1:c=34
  ·rw[quote_stop (f+1) k c q acc (by omega) c1]
   exact(show ¬ ((6:Int)=2\/(6:Int)=3) by decide)
  ·by_cases c2:(speltP (c::q)).2=0
   ·rw[quote_bad (f+1) k c q acc (by omega) c1 c2]
    exact(show ¬ ((0:Int)=2\/(0:Int)=3) by decide)
   ·rw[quote_on f k c q acc c1 c2]
    exact quote_nk f _ _ _
theorem piece_pfx(r:List UInt8):PfxPc r (pieceP r):=by
 have nz:¬ ((0:Int)=2\/(0:Int)=3):=by decide
 unfold pieceP
 refine pfx_or ?_ (pfx_or ?_ (pfx_or ?_ (pfx_or ?_ (pfx_or ?_ ?_))))
 ·refine pfx_ne ?_
  unfold gapP
  repeat' split
  all_goals exact nz
 ·unfold W.nameP
  split
  ·exact pfx_ne nz
  ·split
   ·exact pfx_ne nz
   ·intro _
    show (namedT (r.take (runN nameB r))).text.data.toList <+: r
    unfold namedT
    split
    ·exact List.nil_prefix
    ·split
     ·exact List.nil_prefix
     ·split
      ·exact z11z _ _
      ·exact z11z _ _
 ·refine pfx_ne ?_
  unfold doubleP
  split
  ·split
   ·exact(show ¬ ((5:Int)=2\/(5:Int)=3) by decide)
   ·exact nz
  ·exact nz
 ·refine pfx_ne ?_
  unfold wholeP
  split
  ·exact nz
  ·split
   ·exact(show ¬ ((4:Int)=2\/(4:Int)=3) by decide)
   ·exact nz
 ·refine pfx_ne ?_
  unfold quotedP
  split
  ·rcases qd_cases (quoteGo r.length (r.drop 1) 1 []) with g|⟨_,g⟩
   ·rw[g]
    exact quote_nk _ _ _ _
   ·rw[g]
    exact nz
  ·exact nz
 ·unfold markP
  split
  ·rename_i m hm
   intro _
   have:=List.find?_some hm
   simp only[beq_iff_eq] at this
   show m <+: r
   rw[<- this]
   exact z11z _ _
  ·exact pfx_ne nz
theorem T_pfx(n:Nat):∀ (r:List UInt8) (a:Nat),r.length<=n->∀y ∈ T r a,y.t.kind=2\/y.t.kind=3->∃k,y.a=((a+k:Nat):Int)/\y.t.text.data.toList <+: r.drop k:=by
 have nz:¬ ((0:Int)=2\/(0:Int)=3):=by decide
 have ns:¬ ((7:Int)=2\/(7:Int)=3):=by decide
 induction n with
 | zero=>
  intro r a hr y hy hk
  have hr0:r=[]:=z13z (by omega)
  subst hr0
  rw[T_nil,z12z] at hy
  subst hy
  exact absurd hk ns
 | succ n ih=>
  intro r a hr
  cases r with
  | nil=>exact ih [] a (by simp)
  | cons c r=>
   rw[T_step (by simp)]
   have hle:=piece_le (c::r)
   split
   ·intro y hy hk
    rw[z12z.1 hy] at hk
    exact absurd hk nz
   ·rename_i c1
    have hdl:((c::r).drop (pieceP (c::r)).size).length<=n:=by rw[List.length_drop];simp at hr ⊢;omega
    have i1:=ih ((c::r).drop (pieceP (c::r)).size) (a+(pieceP (c::r)).size) hdl
    have next:∀y ∈ T ((c::r).drop (pieceP (c::r)).size) (a+(pieceP (c::r)).size),y.t.kind=2\/y.t.kind=3->∃k,y.a=((a+k:Nat):Int)/\y.t.text.data.toList <+: (c::r).drop k:=by
     intro y hy hk
     obtain⟨k,e1,e2⟩:=i1 y hy hk
     exact⟨(pieceP (c::r)).size+k,by rw[e1];congr 1;omega,by rw[List.drop_drop] at e2;exact e2⟩
    split
    ·intro y hy hk
     rw[z12z.1 hy] at hk
     exact absurd hk nz
    ·split
     ·intro y hy hk
      rcases List.mem_cons.1 hy with rfl|hy
      ·exact⟨0,rfl,piece_pfx (c::r) hk⟩
      ·exact next y hy hk
     ·exact next
def opB(c:UInt8):Bool:=c==43||c==45||c==42||c==47||c==37||c==60||c==62||c==61||c==33
def fiveP(s:List UInt8):Bool:=s==[38]||s==[124]||s==[94]||s==[60,60]||s==[62,62]
theorem sum_pos{α:Type}(f:α->Nat):∀L:List α,0<(L.map f).sum->∃y ∈ L,0<f y
 | [],h=>by simp at h
 | a::L,h=>by
  simp only[List.map_cons,List.sum_cons] at h
  by_cases ha:0<f a
  ·exact⟨a,by simp,ha⟩
  ·obtain⟨y,hy,h2⟩:=sum_pos f L (by omega)
   exact⟨y,by simp[hy],h2⟩
theorem lst_eq{t:ByteArray}{l:List UInt8}(h:(t.toList==l)=true):t=⟨l.toArray⟩:=by
 rw[<- lst] at h
 exact of_decide_eq_true h
theorem meets_cases{t:ByteArray}(h:meetsP t.toList=true):∃c r,t.data.toList=c::r/\opB c=true:=by
 unfold meetsP at h
 simp only[Bool.or_eq_true] at h
 rcases h with((((((((((h|h)|h)|h)|h)|h)|h)|h)|h)|h)|h)|h <;> (rw[lst_eq h];exact⟨_,_,rfl,rfl⟩)
theorem five_meets{t:ByteArray}(h:textP 3 t=true):meetsP t.toList = !(fiveP t.toList):=by
 have h2:comp t=true\/¬tight t=0:=by
  unfold textP at h
  simpa using h
 rcases h2 with h2|h2
 ·unfold comp at h2
  simp only[Bool.or_eq_true,decide_eq_true_eq] at h2
  rcases h2 with((((h|h)|h)|h)|h)|h <;> (rw[h,ByteArray.toList_eq];rfl)
 ·by_cases a1:t=⟨#[124]⟩
  ·rw[a1,ByteArray.toList_eq];rfl
  by_cases a2:t=⟨#[94]⟩
  ·rw[a2,ByteArray.toList_eq];rfl
  by_cases a3:t=⟨#[38]⟩
  ·rw[a3,ByteArray.toList_eq];rfl
  by_cases a4:t=⟨#[60,60]⟩\/t=⟨#[62,62]⟩
  ·rcases a4 with a4|a4 <;> (rw[a4,ByteArray.toList_eq];rfl)
  by_cases a5:t=⟨#[43]⟩\/t=⟨#[45]⟩
  ·rcases a5 with a5|a5 <;> (rw[a5,ByteArray.toList_eq];rfl)
  by_cases a6:t=⟨#[42]⟩\/t=⟨#[47]⟩\/t=⟨#[47,47]⟩\/t=⟨#[37]⟩
  ·rcases a6 with a6|a6|a6|a6 <;> (rw[a6,ByteArray.toList_eq];rfl)
  unfold tight at h2
  rw[if_neg a1,if_neg a2,if_neg a3,if_neg a4,if_neg a5,if_neg a6] at h2
  exact absurd rfl h2
def oneAt(a:Int)(t:ByteArray):Int->ByteArray->Nat:=λx s=>if x=a/\s=t then 1 else 0
theorem sites_plain{l:List UInt8}(hl:l.length<=6000){u:Fo}(h:Rd l u):(sitesP (rowU u)).Nodup/\∀x ∈ sitesP (rowU u),∃ (k:Nat) (c:UInt8),x=(k:Int)/\l[k]? = some c/\opB c=true:=by
 obtain⟨s',n,he⟩:=h.ends
 rw[src_T l (by omega)] at he
 have key:∀φ,fw φ (.cons ⟨1,0,⟨#[]⟩,0,0⟩ u .nil)<=((T l 0).map (yw φ)).sum:=by
  intro φ
  have:=(ops_le φ n (.pg .nil) ⟨T l 0,0⟩ trivial _ _ he).1
  simp only[baseS,fw_nil] at this
  unfold cw at this
  simp only at this
  omega
 constructor
 ·have hM:(((rowU u).filter λp=>p.1.kind==21).map λp=>p.1.a).Nodup:=by
   rw[List.nodup_iff_count]
   intro a
   have h1:=key (onePl a)
   rw[fw_count] at h1
   exact Nat.le_trans h1 (T_one a l.length l 0 (z1z _)).1
  refine hM.sublist ?_
  unfold sitesP
  refine List.Sublist.map _ ?_
  rw[<- List.filter_filter]
  exact List.Sublist.filter _ List.filter_sublist
 ·intro x hx
  unfold sitesP at hx
  simp only[List.mem_map,List.mem_filter,Bool.and_eq_true,beq_iff_eq] at hx
  obtain⟨p,⟨hp,hk,hmt⟩,rfl⟩:=hx
  have h1:=key (oneAt p.1.a p.1.text)
  have h2:=fw_mem (oneAt p.1.a p.1.text) _ p hp
  have h3:nw (oneAt p.1.a p.1.text) p.1=1:=by unfold nw;rw[if_pos hk];exact if_pos ⟨rfl,rfl⟩
  obtain⟨y,hy,hpos⟩:=sum_pos (yw (oneAt p.1.a p.1.text)) (T l 0) (by omega)
  unfold yw oneAt at hpos
  split at hpos
  ·rename_i hkind
   split at hpos
   ·rename_i hat
    obtain⟨k,e1,e2⟩:=T_pfx l.length l 0 (z1z _) y hy hkind
    rw[Nat.zero_add] at e1
    obtain⟨c,r,hc,ho⟩:=meets_cases hmt
    rw[hat.2,hc] at e2
    obtain⟨q,hq⟩:=e2
    refine⟨k,c,by rw[<- hat.1];exact e1,?_,ho⟩
    have:(l.drop k)[0]? = some c:=by rw[<- hq];rfl
    simpa using this
   ·omega
  ·omega
theorem srt_rise{xs:List Int}(h:xs.Nodup):∀ (i:Nat) (a b:Int),(srt xs)[i]? = some a->(srt xs)[i+1]? = some b->a<b:=by
 have h1:(srt xs).Pairwise (λa b=>decide (a<=b)=true):=List.pairwise_mergeSort (λa b c h1 h2=>by simp at *;omega) (λa b=>by simp;omega) xs
 have h2:(srt xs).Nodup:=(List.mergeSort_perm xs _).nodup_iff.2 h
 intro i a b ha hb
 obtain⟨ia,ea⟩:=z10z.1 ha
 obtain⟨ib,eb⟩:=z10z.1 hb
 have p1:=z14z.1 h1 i (i+1) ia ib (by omega)
 have p2:=z14z.1 h2 i (i+1) ia ib (by omega)
 rw[ea,eb] at p1 p2
 simp at p1
 omega
def cntB(L:List (Nd × Nat)):Nat:=(L.filter λp=>(p.1.kind==21) && !(fiveP p.1.text.toList)).length
theorem cnt_sites{l:List UInt8}{u:Fo}(h:Rd l u):cntB (rowU u)=(sitesP (rowU u)).length:=by
 have hN:(rowF u).length<=1000000:=by
  have:=h.few
  simp only[rowF,List.length_cons,List.length_append,List.length_nil] at this
  omega
 have hsk:ShK u 1 u.len 0:=sh_all (wt_sh h.wt hN) λj _ _=>rfl
 unfold cntB sitesP
 rw[List.length_map]
 congr 1
 refine List.filter_congr ?_
 intro p hp
 cases hk:(p.1.kind==21) with
 | false=>simp
 | true=>
  have hk':p.1.kind=21:=by simpa using hk
  simp only[Bool.true_and]
  have hp':p ∈ rowF u:=by
   unfold rowU at hp
   simp only[rowF,List.append_nil,List.mem_cons] at hp
   rcases hp with rfl|hp
   ·cases hk'
   ·exact hp
  have hf:=sh_fits hsk p hp'
  unfold fitsP at hf
  simp only[Bool.and_eq_true,decide_eq_true_eq] at hf
  have ht:=hf.1.2
  rw[hk'] at ht
  exact(five_meets ht).symm
end Go.Proofs.YtfmioihcaohgiaaGreatDoor.W.Tr
