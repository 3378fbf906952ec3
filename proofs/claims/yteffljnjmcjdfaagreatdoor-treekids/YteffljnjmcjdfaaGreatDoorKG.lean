import Derived.Test.YteffljnjmcjdfaaGreatDoorKF
open Go.Proofs.Tryz
set_option maxRecDepth 1000000
set_option maxHeartbeats 8000000
namespace Go.Proofs.YteffljnjmcjdfaaGreatDoor.W.Tr
open Go.ChangeShapes Go.WideShapes Go.RowKit Go.Shelf
set_option linter.unusedVariables false
set_option linter.unusedSimpArgs false
def awL:List (Nd × Nat):=[(⟨1,0,⟨#[]⟩,0,0⟩,1),(⟨3,3,⟨#[102]⟩,0,0⟩,2),(⟨4,5,⟨#[97]⟩,0,0⟩,0),(⟨5,8,⟨#[]⟩,0,0⟩,1),(⟨15,10,⟨#[]⟩,0,0⟩,1),(⟨21,23,⟨#[45]⟩,0,0⟩,2),(⟨21,19,⟨#[45]⟩,0,0⟩,2),(⟨25,17,⟨#[97]⟩,0,0⟩,0),(⟨26,21,⟨#[]⟩,1,0⟩,0),(⟨25,25,⟨#[97]⟩,0,0⟩,0)]
theorem aw_row:rowF awT=awL:=by kernel_rfl
theorem aw_is:isT awL=true:=by kernel_rfl
def awO:List UInt8:=[102,110,32,102,32,40,32,97,32,41,32,123,32,114,101,116,117,114,110,32,40,32,40,32,97,32,45,32,49,32,41,32,45,32,97,32,41,32,59,32,125,10]
theorem aw_pr:prF (tkN (λ_=>⟨#[]⟩)) awL 60 [tK] 0 []=some awO:=by kernel_rfl
theorem aw_ok:∀p ∈ awL,NdOk p/\¬p.1.kind=27/\¬p.1.kind=28:=by
 intro p hp
 simp only[awL,List.mem_cons,List.not_mem_nil,or_false] at hp
 rcases hp with rfl|rfl|rfl|rfl|rfl|rfl|rfl|rfl|rfl|rfl <;> exact⟨⟨by decide,by decide,by decide,by decide⟩,by decide,by decide⟩
theorem awake12_c(w:World)(ht:Tabs w)(hm:MarksIn w):Calls prog 8 #[] w λe w'=>e=.returned (.bool true)/\Below w.heap.size w w':=by
 obtain⟨s',he⟩:=aw_ends
 have cp:=parse_good ⟨#[102,110,32,102,40,97,41,32,123,32,114,101,116,117,114,110,32,97,32,45,32,49,32,45,32,97,59,32,125]⟩ (by decide) w ht hm he
 rw[aw_row] at cp
 have c2:∀w1 r,Below w.heap.size w w1->w1.ownsRow w.heap.size 40 6 r awL.length (rowsN awL)->Calls prog 16 #[r] w1 λe w'=>e=.returned (.tuple #[.string ⟨#[102,110,32,102,32,40,32,97,32,41,32,123,32,114,101,116,117,114,110,32,40,32,40,32,97,32,45,32,49,32,41,32,45,32,97,32,41,32,59,32,125,10]⟩,.int .i64 0])/\Below w1.heap.size w1 w':=by
  intro w1 r hB ho
  exact print_good (λ_=>⟨#[]⟩) w1 r awL (nr_of ho (by decide) (by decide)) (λk e=>(ho.lt k e).2) aw_is (λp hp=>(aw_ok p hp).1) (λp hp e=>absurd e (aw_ok p hp).2.1) (λp hp e=>absurd e (aw_ok p hp).2.2) 60 awO aw_pr (ht.below hB) (hm.below hB)
 have c3:Calls prog 7 #[.string ⟨#[102,110,32,102,40,97,41,32,123,32,114,101,116,117,114,110,32,97,32,45,32,49,32,45,32,97,59,32,125]⟩] w λe w'=>∃g cap,e=.returned (.tuple #[.slice (some ⟨g,0,none⟩) 10 cap,.agg #[.int .i64 0,.int .i64 0]])/\Below w.heap.size w w'/\10<=cap/\w'.ownsRow w.heap.size 40 6 (.slice (some ⟨g,0,none⟩) 10 cap) awL.length (rowsN awL):=by
  refine cp.mono ?_
  rintro e w' ⟨r,rfl,hB,ho⟩
  rcases ho.2 with⟨_,h0⟩|⟨g,cap,cur,rfl,h2,h3,h4,_⟩
  ·cases h0
  ·exact⟨g,cap,rfl,hB,h4,ho⟩
 clear cp ht hm he
 go_enter func8,ntmps8
 go_wp2_with (first|(go_at_call 7;(with_reducible refine c3.mono ?_);rintro e w2 ⟨g,cap,rfl,hB2,hcap,ho2⟩;(have b3:Below w2.heap.size w2 (w2.alloc (.cells #[.int .i64 0,.int .i64 0] 26)):=(Below.refl _ w2).alloc (Nat.le_refl _) _);(have hf3:=World.alloc_heap_new w2 (.cells #[.int .i64 0,.int .i64 0] 26));(have HB3:=hid (hB2.trans (b3.mono hB2.size)));(have HO3:=hid (owns_onX ho2 (λk e=>b3.block k (ho2.lt k e).2)));clear hB2 ho2 b3 c3)|(go_at_call 16;((with_reducible refine(c2 _ _ HB3.out HO3.out).mono ?_);rintro e w5 ⟨rfl,hB5⟩;(have d0:=row_cellsX (row_keepX hf3 hB5) 0);(have d1:=row_cellsX (row_keepX hf3 hB5) 1);simp only[List.getElem?_toArray,List.getElem?_cons_succ,List.getElem?_cons_zero] at d0 d1;(have n5:=(nr_of HO3.out (by decide) (by decide)).below hB5 (λk e=>(HO3.out.lt k e).2));(obtain⟨x0,x1,x2,x3,x4,x5⟩:=nr_cells (L:=awL) (show NR w5 (.slice (some ⟨g,0,none⟩) awL.length cap) awL from n5) 5 (⟨21,23,⟨#[45]⟩,0,0⟩,2) rfl);(have HB5:=hid (HB3.out.trans (hB5.mono HB3.out.size)));clear hB5 n5 c2)))
 go_ret
 exact⟨rfl,HB5.out⟩
end Go.Proofs.YteffljnjmcjdfaaGreatDoor.W.Tr
