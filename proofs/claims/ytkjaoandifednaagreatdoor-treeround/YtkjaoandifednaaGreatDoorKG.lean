import Derived.Test.YtkjaoandifednaaGreatDoorTpuJ
namespace Go.Proofs.YtkjaoandifednaaGreatDoor.W.Tr
open Go.ChangeShapes Go.WideShapes Go.RowKit Go.Shelf
set_option linter.unusedVariables false
set_option linter.unusedSimpArgs false
def hexB (n:Nat):UInt8:=if n < 10 then (48 + n).toUInt8 else (87 + n).toUInt8
def escB (b:UInt8):List UInt8:=if b=34∨b=92 then [92,b] else if b=10 then [92,110] else if b < 32∨126 < b then [92,120,hexB (b.toNat / 16),hexB (b.toNat % 16)] else [b]
def quoP (s:ByteArray):ByteArray:=⟨([34] ++ s.data.toList.flatMap escB ++ [34]).toArray⟩
def tkN (fl:Int→ByteArray) (p:Nd × Nat):List ByteArray:=tokP p.1.kind p.2 p.1.text (if p.1.kind=27 then fl p.1.bits else if p.1.kind=28 then quoP p.1.text else ⟨(intT p.1.int).toArray⟩)
set_option maxRecDepth 100000 in
set_option maxHeartbeats 1000000 in
theorem tok_c (fl:Int→ByteArray) (p:Nd × Nat) (hk:1≤p.1.kind∧p.1.kind≤31) (h27:p.1.kind=27→∀ w,Tabs w→TK 63 #[nv p] [fl p.1.bits] w) (h28:p.1.kind=28→∀ w,Tabs w→TK 63 #[nv p] [quoP p.1.text] w) (hc:p.2≤1000000) (hl:(ruleP p.1.kind).least≤(p.2:Nat)) (hi:-9223372036854775808≤p.1.int∧p.1.int≤9223372036854775807) (w:World) (ht:Tabs w):TK 35 #[nv p] (tkN fl p) w:=by
 obtain ⟨⟨k,a,t,i,b⟩,c⟩:=p
 simp only at hk hc hl hi h27 h28
 unfold nv tkN at *
 simp only at h27 h28 ⊢
 have hT:∀ {w'},Below w.heap.size w w'→Tabs w':=fun hB=>ht.below hB
 have:k=1∨k=2∨k=3∨k=4∨k=5∨k=6∨k=7∨k=8∨k=9∨k=10∨k=11∨k=12∨k=13∨k=14∨k=15∨k=16∨k=17∨k=18∨k=19∨k=20∨k=21∨k=22∨k=23∨k=24∨k=25∨k=26∨k=27∨k=28∨k=29∨k=30∨k=31:=by omega
 rcases this with rfl | rfl | rfl | rfl | rfl | rfl | rfl | rfl | rfl | rfl | rfl | rfl | rfl | rfl | rfl | rfl | rfl | rfl | rfl | rfl | rfl | rfl | rfl | rfl | rfl | rfl | rfl | rfl | rfl | rfl | rfl
 ·exact tk_1 a c t i b w hc
 ·exact tk_2 a c t i b w
 ·exact tk_3 a c t i b w hc (by have:(1:Int)≤(c:Nat):=hl;omega)
 ·exact tk_4 a c t i b w
 ·exact tk_5 a c t i b w hc
 ·exact tk_st 6 a c t i b _ w ⟨by decide,by decide,by decide,by decide,by decide,by decide,by decide⟩ rfl (fun w' _=>st_6 a c t i b w')
 ·exact tk_st 7 a c t i b _ w ⟨by decide,by decide,by decide,by decide,by decide,by decide,by decide⟩ rfl (fun w' _=>st_7 a c t i b w')
 ·exact tk_st 8 a c t i b _ w ⟨by decide,by decide,by decide,by decide,by decide,by decide,by decide⟩ rfl (fun w' _=>st_8 a c t i b w')
 ·exact tk_st 9 a c t i b _ w ⟨by decide,by decide,by decide,by decide,by decide,by decide,by decide⟩ rfl (fun w' _=>st_9 a c t i b w')
 ·exact tk_st 10 a c t i b _ w ⟨by decide,by decide,by decide,by decide,by decide,by decide,by decide⟩ rfl (fun w' _=>st_10 a c t i b w')
 ·exact tk_st 11 a c t i b _ w ⟨by decide,by decide,by decide,by decide,by decide,by decide,by decide⟩ rfl (fun w' _=>st_11 a c t i b w' hc (by have:(3:Int)≤(c:Nat):=hl;omega))
 ·exact tk_12 a c t i b w
 ·exact tk_st 13 a c t i b _ w ⟨by decide,by decide,by decide,by decide,by decide,by decide,by decide⟩ rfl (fun w' _=>st_13 a c t i b w')
 ·exact tk_st 14 a c t i b _ w ⟨by decide,by decide,by decide,by decide,by decide,by decide,by decide⟩ rfl (fun w' _=>st_14 a c t i b w')
 ·exact tk_st 15 a c t i b _ w ⟨by decide,by decide,by decide,by decide,by decide,by decide,by decide⟩ rfl (fun w' _=>st_15 a c t i b w' hc)
 ·exact tk_st 16 a c t i b _ w ⟨by decide,by decide,by decide,by decide,by decide,by decide,by decide⟩ rfl (fun w' _=>st_16 a c t i b w')
 ·exact tk_st 17 a c t i b _ w ⟨by decide,by decide,by decide,by decide,by decide,by decide,by decide⟩ rfl (fun w' _=>st_17 a c t i b w')
 ·exact tk_ex 18 a c t i b _ w ⟨by decide,by decide,by decide,by decide,by decide,by decide,by decide⟩ rfl (fun w' _=>ex_18 a c t i b w')
 ·exact tk_ex 19 a c t i b _ w ⟨by decide,by decide,by decide,by decide,by decide,by decide,by decide⟩ rfl (fun w' _=>ex_19 a c t i b w')
 ·exact tk_ex 20 a c t i b _ w ⟨by decide,by decide,by decide,by decide,by decide,by decide,by decide⟩ rfl (fun w' _=>ex_20 a c t i b w')
 ·exact tk_ex 21 a c t i b _ w ⟨by decide,by decide,by decide,by decide,by decide,by decide,by decide⟩ rfl (fun w' _=>ex_21 a c t i b w')
 ·exact tk_ex 22 a c t i b _ w ⟨by decide,by decide,by decide,by decide,by decide,by decide,by decide⟩ rfl (fun w' _=>ex_22 a c t i b w')
 ·exact tk_ex 23 a c t i b _ w ⟨by decide,by decide,by decide,by decide,by decide,by decide,by decide⟩ rfl (fun w' _=>ex_23 a c t i b w' hc)
 ·exact tk_ex 24 a c t i b _ w ⟨by decide,by decide,by decide,by decide,by decide,by decide,by decide⟩ rfl (fun w' _=>ex_24 a c t i b w')
 ·exact tk_25 a c t i b w
 ·exact tk_ex 26 a c t i b _ w ⟨by decide,by decide,by decide,by decide,by decide,by decide,by decide⟩ rfl (fun w' hB=>ex_26 a c t i b w' hi.1 hi.2 (hT hB))
 ·exact tk_ex 27 a c t i b _ w ⟨by decide,by decide,by decide,by decide,by decide,by decide,by decide⟩ rfl (fun w' hB=>h27 rfl w' (hT hB))
 ·exact tk_ex 28 a c t i b _ w ⟨by decide,by decide,by decide,by decide,by decide,by decide,by decide⟩ rfl (fun w' hB=>h28 rfl w' (hT hB))
 ·exact tk_ex 29 a c t i b _ w ⟨by decide,by decide,by decide,by decide,by decide,by decide,by decide⟩ rfl (fun w' _=>ex_29 a c t i b w')
 ·exact tk_ex 30 a c t i b _ w ⟨by decide,by decide,by decide,by decide,by decide,by decide,by decide⟩ rfl (fun w' _=>ex_30 a c t i b w')
 ·exact tk_ex 31 a c t i b _ w ⟨by decide,by decide,by decide,by decide,by decide,by decide,by decide⟩ rfl (fun w' _=>ex_31 a c t i b w')
theorem isGo_fits (L:List (Nd × Nat)):∀ (r n:Nat) (Q:List (Nat × Nat)),isGo L r n Q=true→n + r=L.length→∀ j,n≤j→j < L.length→fitsAt L j=true
 | 0,n,Q,h,e,j,h1,h2=>by omega
 | r + 1,n,Q,h,e,j,h1,h2=>by
  unfold isGo at h
  split at h
  ·cases h
  ·simp only [Bool.and_eq_true] at h
   obtain ⟨⟨h3,h4⟩,h5⟩:=h
   rcases Nat.lt_or_ge n j with hj | hj
   ·exact isGo_fits L r (n + 1) _ h5 (by omega) j hj h2
   ·rw [show j=n by omega];exact h3
theorem isT_fits (L:List (Nd × Nat)) (h:isT L=true):∀ p ∈ L,fitsP p=true:=by
 intro p hp
 cases L with
 | nil=>cases hp
 | cons q L=>
  simp only [isT,Bool.and_eq_true] at h
  obtain ⟨⟨h1,h2⟩,h3⟩:=h
  obtain ⟨j,hj⟩:=List.getElem?_of_mem hp
  cases j with
  | zero=>simp at hj;subst hj;exact h2
  | succ j=>
   have:=isGo_fits (q :: L) L.length 1 _ h3 (by simp;omega) (j + 1) (by omega) (List.getElem?_eq_some_iff.1 hj).1
   unfold fitsAt at this
   rw [hj] at this
   exact this
structure NdOk (p:Nd × Nat):Prop where
 kind:1≤p.1.kind∧p.1.kind≤31
 size:p.1.text.size≤1000000
 kids:p.2≤1000000
 int:-9223372036854775808≤p.1.int∧p.1.int≤9223372036854775807
set_option maxRecDepth 100000 in
set_option maxHeartbeats 1000000 in
theorem print_good (fl:Int→ByteArray) (w:World) (v:Value) (L:List (Nd × Nat)) (hN:NR w v L) (hNl:∀ k,v.ownBlock=some k→k < w.heap.size) (hT:isT L=true) (hok:∀ p ∈ L,NdOk p) (h27:∀ p ∈ L,p.1.kind=27→∀ w,Tabs w→TK 63 #[nv p] [fl p.1.bits] w) (h28:∀ p ∈ L,p.1.kind=28→∀ w,Tabs w→TK 63 #[nv p] [quoP p.1.text] w) (fuel:Nat) (res:List UInt8) (hpr:prF (tkN fl) L fuel [tK] 0 []=some res) (ht:Tabs w) (hm:MarksIn w) :
  Calls Tryz.prog 10 #[v] w fun e w'=>e=.returned (.tuple #[.string ⟨res.toArray⟩,.int .i64 0])∧Below w.heap.size w w':=by
 have ci:=isTree_c w v L hN hNl hT (fun p hp=>⟨(hok p hp).size,(hok p hp).kids⟩) ht hm
 have hfit:=isT_fits L hT
 have cp:∀ w',Below w.heap.size w w'→Calls Tryz.prog 21 #[v] w' fun e w''=>e=.returned (.string ⟨res.toArray⟩)∧Below w'.heap.size w' w'':=by
  intro w1 hB
  refine printed_core w1 v L (tkN fl) res fuel (hN.below hB hNl) (fun k e=>Nat.lt_of_lt_of_le (hNl k e) hB.size) ?_ hpr
  intro p hp w2 hB2
  have hB3:=hB.trans (hB2.mono hB.size)
  refine tok_c fl p (hok p hp).kind (h27 p hp) (h28 p hp) (hok p hp).kids ?_ (hok p hp).int w2 (ht.below hB3)
  have:=hfit p hp
  simp only [fitsP,Bool.and_eq_true,decide_eq_true_eq] at this
  exact this.1.1.1
 clear hT hok h27 h28 hpr ht hm hfit
 obtain ⟨gl,lc,rfl,hL,-⟩:=hN
 clear hNl
 generalize (⟨res.toArray⟩:ByteArray)=rs at *
 go_enter Tryz.func10,Tryz.ntmps10
 go_wp2_with (first | (go_at_call 20;(with_reducible refine ci.mono ?_);rintro e w2 ⟨rfl,hB⟩;(have HB:=hid hB);clear hB ci) | (go_at_call 21;(with_reducible refine (cp _ HB.out).mono ?_);rintro e w3 ⟨rfl,hB3⟩;(have HB3:=hid (HB.out.trans (hB3.mono HB.out.size)));clear hB3 cp))
 go_ret2
 exact ⟨rfl,HB3.out⟩
def awL:List (Nd × Nat):=[(⟨1,0,⟨#[]⟩,0,0⟩,1),(⟨3,3,⟨#[102]⟩,0,0⟩,2),(⟨4,5,⟨#[97]⟩,0,0⟩,0),(⟨5,8,⟨#[]⟩,0,0⟩,1),(⟨15,10,⟨#[]⟩,0,0⟩,1),(⟨21,23,⟨#[45]⟩,0,0⟩,2),(⟨21,19,⟨#[45]⟩,0,0⟩,2),(⟨25,17,⟨#[97]⟩,0,0⟩,0),(⟨26,21,⟨#[]⟩,1,0⟩,0),(⟨25,25,⟨#[97]⟩,0,0⟩,0)]
theorem aw_row:rowF awT=awL:=by kernel_rfl
set_option maxRecDepth 100000 in
theorem aw_is:isT awL=true:=by kernel_rfl
def awO:List UInt8:=[102,110,32,102,32,40,32,97,32,41,32,123,32,114,101,116,117,114,110,32,40,32,40,32,97,32,45,32,49,32,41,32,45,32,97,32,41,32,59,32,125,10]
set_option maxRecDepth 100000 in
theorem aw_pr:prF (tkN (fun _=>⟨#[]⟩)) awL 60 [tK] 0 []=some awO:=by kernel_rfl
theorem aw_ok:∀ p ∈ awL,NdOk p∧¬ p.1.kind=27∧¬ p.1.kind=28:=by
 intro p hp
 simp only [awL,List.mem_cons,List.not_mem_nil,or_false] at hp
 rcases hp with rfl | rfl | rfl | rfl | rfl | rfl | rfl | rfl | rfl | rfl <;> exact ⟨⟨by decide,by decide,by decide,by decide⟩,by decide,by decide⟩
set_option maxRecDepth 100000 in
set_option maxHeartbeats 1000000 in
theorem awake12_c (w:World) (ht:Tabs w) (hm:MarksIn w):Calls Tryz.prog 9 #[] w fun e w'=>e=.returned (.bool true)∧Below w.heap.size w w':=by
 obtain ⟨s',he⟩:=aw_ends
 have cp:=parse_good ⟨#[102,110,32,102,40,97,41,32,123,32,114,101,116,117,114,110,32,97,32,45,32,49,32,45,32,97,59,32,125]⟩ (by decide) w ht hm he
 rw [aw_row] at cp
 have c2:∀ w1 r,Below w.heap.size w w1→w1.ownsRow w.heap.size 44 6 r awL.length (rowsN awL)→Calls Tryz.prog 10 #[r] w1 fun e w'=>e=.returned (.tuple #[.string ⟨#[102,110,32,102,32,40,32,97,32,41,32,123,32,114,101,116,117,114,110,32,40,32,40,32,97,32,45,32,49,32,41,32,45,32,97,32,41,32,59,32,125,10]⟩,.int .i64 0])∧Below w1.heap.size w1 w':=by
  intro w1 r hB ho
  exact print_good (fun _=>⟨#[]⟩) w1 r awL (nr_of ho (by decide) (by decide)) (fun k e=>(ho.lt k e).2) aw_is (fun p hp=>(aw_ok p hp).1) (fun p hp e=>absurd e (aw_ok p hp).2.1) (fun p hp e=>absurd e (aw_ok p hp).2.2) 60 awO aw_pr (ht.below hB) (hm.below hB)
 have c3:Calls Tryz.prog 8 #[.string ⟨#[102,110,32,102,40,97,41,32,123,32,114,101,116,117,114,110,32,97,32,45,32,49,32,45,32,97,59,32,125]⟩] w fun e w'=>∃ g cap,e=.returned (.tuple #[.slice (some ⟨g,0,none⟩) 10 cap,.agg #[.int .i64 0,.int .i64 0]])∧Below w.heap.size w w'∧10≤cap∧w'.ownsRow w.heap.size 44 6 (.slice (some ⟨g,0,none⟩) 10 cap) awL.length (rowsN awL):=by
  refine cp.mono ?_
  rintro e w' ⟨r,rfl,hB,ho⟩
  rcases ho.2 with ⟨_,h0⟩ | ⟨g,cap,cur,rfl,h2,h3,h4,_⟩
  ·cases h0
  ·exact ⟨g,cap,rfl,hB,h4,ho⟩
 clear cp ht hm he
 go_enter Tryz.func9,Tryz.ntmps9
 go_wp2_with (first | (go_at_call 8;(with_reducible refine c3.mono ?_);rintro e w2 ⟨g,cap,rfl,hB2,hcap,ho2⟩;(have b3:Below w2.heap.size w2 (w2.alloc (.cells #[.int .i64 0,.int .i64 0] 25)):=(Below.refl _ w2).alloc (Nat.le_refl _) _);(have hf3:=World.alloc_heap_new w2 (.cells #[.int .i64 0,.int .i64 0] 25));(have HB3:=hid (hB2.trans (b3.mono hB2.size)));(have HO3:=hid (owns_onX ho2 (fun k e=>b3.block k (ho2.lt k e).2)));clear hB2 ho2 b3 c3) | (go_at_call 10;((with_reducible refine (c2 _ _ HB3.out HO3.out).mono ?_);rintro e w5 ⟨rfl,hB5⟩;(have d0:=row_cellsX (row_keepX hf3 hB5) 0);(have d1:=row_cellsX (row_keepX hf3 hB5) 1);simp only [List.getElem?_toArray,List.getElem?_cons_succ,List.getElem?_cons_zero] at d0 d1;(have n5:=(nr_of HO3.out (by decide) (by decide)).below hB5 (fun k e=>(HO3.out.lt k e).2));(obtain ⟨x0,x1,x2,x3,x4,x5⟩:=nr_cells (L:=awL) (show NR w5 (.slice (some ⟨g,0,none⟩) awL.length cap) awL from n5) 5 (⟨21,23,⟨#[45]⟩,0,0⟩,2) rfl);(have HB5:=hid (HB3.out.trans (hB5.mono HB3.out.size)));clear hB5 n5 c2)))
 go_ret
 exact ⟨rfl,HB5.out⟩
end Go.Proofs.YtkjaoandifednaaGreatDoor.W.Tr
