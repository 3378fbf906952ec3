import Derived.Test.YtkjaoandifednaaGreatDoorTp8J
import Derived.Lib.SlBuf
open List renaming getElem_toArray → zx1, getElem_cons_zero → zx2, getElem_cons_succ → zx3, setIfInBounds_toArray → zx4, set_cons_zero → zx5, set_cons_succ → zx6
namespace Go.Proofs.YtkjaoandifednaaGreatDoor.W.Tr
open Go.ChangeShapes Go.WideShapes Go.RowKit Go.Shelf
set_option linter.unusedVariables false
set_option linter.unusedSimpArgs false
theorem cat3 (w:World) (v1 v2 v3:Value) (r1 r2 r3:List ByteArray) (h1:OS w 0 v1 r1) (h2:OS w 0 v2 r2) (h3:OS w 0 v3 r3) (hl:r1.length + r2.length + r3.length≤4000000) (hp:0 < r1.length + r2.length + r3.length) :
  Calls Tryz.prog 60 #[.slice (some ⟨w.heap.size,0,none⟩) 3 3] (w.alloc (.cells #[v1,v2,v3] 55)) fun e w'=>∃ v,e=.returned v∧Below w.heap.size w w'∧OS w' w.heap.size v (r1 ++ r2 ++ r3):=by
 have hB:Below w.heap.size w (w.alloc (.cells #[v1,v2,v3] 55)):=(Below.refl _ w).alloc (Nat.le_refl _) _
 have e:=row_cellsX (World.alloc_heap_new w (.cells #[v1,v2,v3] 55))
 refine (concat3_c (w.alloc (.cells #[v1,v2,v3] 55)) w.heap.size 3 v1 v2 v3 r1 r2 r3 (e 0) (e 1) (e 2) (h1.below hB) (h2.below hB) (h3.below hB) hl hp).mono ?_
 rintro e w' ⟨v,rfl,hB',hO⟩
 exact ⟨v,rfl,hB.trans (hB'.mono hB.size),hO.base hB.size⟩
theorem cat2 (w:World) (v1 v2:Value) (r1 r2:List ByteArray) (h1:OS w 0 v1 r1) (h2:OS w 0 v2 r2) (hl:r1.length + r2.length≤4000000) (hp:0 < r1.length + r2.length) :
  Calls Tryz.prog 60 #[.slice (some ⟨w.heap.size,0,none⟩) 2 2] (w.alloc (.cells #[v1,v2] 55)) fun e w'=>∃ v,e=.returned v∧Below w.heap.size w w'∧OS w' w.heap.size v (r1 ++ r2):=by
 have hB:Below w.heap.size w (w.alloc (.cells #[v1,v2] 55)):=(Below.refl _ w).alloc (Nat.le_refl _) _
 have e:=row_cellsX (World.alloc_heap_new w (.cells #[v1,v2] 55))
 refine (concat2_c (w.alloc (.cells #[v1,v2] 55)) w.heap.size 2 v1 v2 r1 r2 (e 0) (e 1) (h1.below hB) (h2.below hB) hl hp).mono ?_
 rintro e w' ⟨v,rfl,hB',hO⟩
 exact ⟨v,rfl,hB.trans (hB'.mono hB.size),hO.base hB.size⟩
section
variable (a:Int) (c:Nat) (t:ByteArray) (i b:Int) (w:World)
set_option maxRecDepth 100000 in
set_option maxHeartbeats 2000000 in
theorem tk_3 (hc:c≤1000000) (hc1:1≤c):TK 35 #[nodV 3 a c t i b] ([⟨#[102,110]⟩,t,⟨#[40]⟩] ++ comT (c - 1) ++ [⟨#[41]⟩,tK]) w:=by
 have cc:=fun w=>(show Calls Tryz.prog 61 #[.int .i64 ((c - 1:Nat):Int)] w fun e w'=>∃ v,e=.returned v∧Below w.heap.size w w'∧OS w' w.heap.size v (comT (c - 1)) from commas_c (c - 1) (by omega) w)
 have j1:IntKind.i64.wrap ((c:Int) - 1)=((c - 1:Nat):Int):=by rw [IntKind.wrap_i64];omega
 unfold TK nodV at *
 have hn:=World.alloc_heap_new w (.cells #[.int .i64 3,.int .i64 a,.int .i64 (c:Nat),.string t,.int .i64 i,.int .u64 b] 44)
 have hb:Below w.heap.size w (w.alloc (.cells #[.int .i64 3,.int .i64 a,.int .i64 (c:Nat),.string t,.int .i64 i,.int .u64 b] 44)):=(Below.refl _ w).alloc (Nat.le_refl _) _
 revert cc
 generalize hcl:comT (c - 1)=CL
 have hCL:CL.length≤2000000:=by rw [← hcl];(have:=comT_len (c - 1);omega)
 clear hcl
 intro cc
 obtain ⟨L0,hL0⟩:∃ L0,[⟨#[102,110]⟩,t,⟨#[40]⟩] ++ CL ++ [⟨#[41]⟩,tK]=L0:=⟨_,rfl⟩
 rw [hL0]
 have HL0:=hid hL0
 clear hL0
 go_enter Tryz.func35,Tryz.ntmps35
 go_upto_region 7 with fail
 generalize w.alloc _=W at *
 refine wp_region_held_drew (S:=fun w'=>w'.heap[w.heap.size]? = some (.cells #[.int .i64 3,.int .i64 a,.int .i64 (c:Nat),.string t,.int .i64 i,.int .u64 b] 44 (0,0))) (by kernel_rfl) hn ?_
 intro hS
 replace hb:=hb.drew
 clear hn
 (refine wpAnyH_take (i:=0) (v:=?_) rfl (by kernel_rfl) (by kernel_rfl) (by kernel_rfl) (fun _ _ _ h=>h) (Or.inl ⟨by rfl,?_⟩) hS ?_);rotate_left;(focus (intro w' hSw;(have g2:=row_cellsX hSw 2);(have g3:=row_cellsX hSw 3);simp only [List.getElem?_toArray,List.getElem?_cons_succ,List.getElem?_cons_zero] at g2 g3;go_simp;(try with_reducible rfl)));(try simp only [Act.put,zx1,zx2,zx3,zx4,zx5,zx6])
 (refine wpAnyH_take (i:=1) (v:=?_) rfl (by kernel_rfl) (by kernel_rfl) (by kernel_rfl) (fun _ _ _ h=>h) (Or.inl ⟨by rfl,?_⟩) hS ?_);rotate_left;(focus (intro w' hSw;(have g2:=row_cellsX hSw 2);(have g3:=row_cellsX hSw 3);simp only [List.getElem?_toArray,List.getElem?_cons_succ,List.getElem?_cons_zero] at g2 g3;go_simp;(try with_reducible rfl)));(try simp only [Act.put,zx1,zx2,zx3,zx4,zx5,zx6])
 (refine wpAnyH_take (i:=3) (v:=?_) rfl (by kernel_rfl) (by kernel_rfl) (by kernel_rfl) (fun _ _ _ h=>h) (Or.inl ⟨by rfl,?_⟩) hS ?_);rotate_left;(focus (intro w' hSw;(have g2:=row_cellsX hSw 2);(have g3:=row_cellsX hSw 3);simp only [List.getElem?_toArray,List.getElem?_cons_succ,List.getElem?_cons_zero] at g2 g3;go_simp;(try with_reducible rfl)));(try simp only [Act.put,zx1,zx2,zx3,zx4,zx5,zx6])
 (refine wpAnyH_take (i:=4) (v:=?_) rfl (by kernel_rfl) (by kernel_rfl) (by kernel_rfl) (fun _ _ _ h=>h) (Or.inl ⟨by rfl,?_⟩) hS ?_);rotate_left;(focus (intro w' hSw;(have g2:=row_cellsX hSw 2);(have g3:=row_cellsX hSw 3);simp only [List.getElem?_toArray,List.getElem?_cons_succ,List.getElem?_cons_zero] at g2 g3;go_simp;(try with_reducible rfl)));(try simp only [Act.put,zx1,zx2,zx3,zx4,zx5,zx6])
 (refine wpAnyH_take (i:=5) (v:=?_) rfl (by kernel_rfl) (by kernel_rfl) (by kernel_rfl) (fun _ _ _ h=>h) (Or.inl ⟨by rfl,?_⟩) hS ?_);rotate_left;(focus (intro w' hSw;(have g2:=row_cellsX hSw 2);(have g3:=row_cellsX hSw 3);simp only [List.getElem?_toArray,List.getElem?_cons_succ,List.getElem?_cons_zero] at g2 g3;go_simp;(try with_reducible rfl)));(try simp only [Act.put,zx1,zx2,zx3,zx4,zx5,zx6])
 generalize W.drew=W0 at *
 refine wpAnyH_ready (rs:=[2,6,7]) (by kernel_rfl) (by simp) ?_
 refine AllReadyH.cons rfl (fun K hK=>?_) ?_
 ·
  have bN:Below W0.heap.size W0 (W0.alloc (.cells #[.string ⟨#[102,110]⟩,.string t,.string ⟨#[40]⟩] 9)):=(Below.refl _ W0).alloc (Nat.le_refl _) _
  have hS':=row_keepX hS bN
  have o0':OS (W0.alloc (.cells #[.string ⟨#[102,110]⟩,.string t,.string ⟨#[40]⟩] 9)) 0 (.slice (some ⟨W0.heap.size,0,none⟩) 3 3) [⟨#[102,110]⟩,t,⟨#[40]⟩]:=os_lit (l:=[.string ⟨#[102,110]⟩,.string t,.string ⟨#[40]⟩]) rfl (World.alloc_heap_new W0 _) (Nat.zero_le _) (by simp)
  have hb':=hb.trans (bN.mono hb.size)
  go_simp
  refine hK.out _ _ hS' (fun _=>?_)
  clear hK K
  (try simp only [Act.put,zx1,zx2,zx3,zx4,zx5,zx6])
  clear hS hb bN
  generalize hsz0:W0.heap.size=z0 at *
  generalize W0.alloc (.cells #[.string ⟨#[102,110]⟩,.string t,.string ⟨#[40]⟩] 9)=W1 at *
  have hS:=hS';have hb:=hb';have o0:=o0'
  clear hS' hb' o0'
  refine wpAnyH_ready (rs:=[6,7]) (by kernel_rfl) (by simp) ?_
  refine AllReadyH.cons rfl (fun K hK=>?_) ?_
  ·
   go_simp
   refine (cc _).mono ?_
   rintro e W2 ⟨v1,rfl,bN,o1'⟩
   have hS':=row_keepX hS bN
   have hb':=hb.trans (bN.mono hb.size)
   replace o1':=o1'.base (Nat.zero_le _)
   have o0':=o0.below bN
   obtain ⟨oo,oc,rfl⟩:=slice_ofX o1'
   refine hK.out _ _ hS' (fun _=>?_)
   clear hK K
   (try simp only [Act.put,zx1,zx2,zx3,zx4,zx5,zx6])
   clear hS hb bN o0
   have hS:=hS';have hb:=hb';have o0:=o0';have o1:=o1'
   clear hS' hb' o0' o1'
   refine wpAnyH_ready (rs:=[7]) (by kernel_rfl) (by simp) ?_
   refine AllReadyH.cons rfl (fun K hK=>?_) AllReadyH.nil
   have bN:Below W2.heap.size W2 (W2.alloc (.cells #[.string ⟨#[41]⟩,.string ⟨#[]⟩] 9)):=(Below.refl _ W2).alloc (Nat.le_refl _) _
   have hS':=row_keepX hS bN
   have o2':OS (W2.alloc (.cells #[.string ⟨#[41]⟩,.string ⟨#[]⟩] 9)) 0 (.slice (some ⟨W2.heap.size,0,none⟩) 2 2) [⟨#[41]⟩,tK]:=os_lit (l:=[.string ⟨#[41]⟩,.string ⟨#[]⟩]) rfl (World.alloc_heap_new W2 _) (Nat.zero_le _) (by simp)
   have hb':=hb.trans (bN.mono hb.size)
   have o0':=o0.below bN
   have o1':=o1.below bN
   go_simp
   refine hK.out _ _ hS' (fun _=>?_)
   clear hK K
   (try simp only [Act.put,zx1,zx2,zx3,zx4,zx5,zx6])
   clear hS hb bN o0 o1
   generalize hsz2:W2.heap.size=z2 at *
   generalize W2.alloc (.cells #[.string ⟨#[41]⟩,.string ⟨#[]⟩] 9)=W3 at *
   have hS:=hS';have hb:=hb';have o0:=o0';have o1:=o1';have o2:=o2'
   clear hS' hb' o0' o1' o2'
   have hcat:=cat3 W3 _ _ _ _ _ _ o0 o1 o2 (by simp;omega) (by first | (simp;done) | (simp;omega))
   rw [HL0.out] at hcat
   clear o0 o1 o2
   refine wpAnyH_ready (rs:=[8]) (by kernel_rfl) (by simp) ?_
   refine AllReadyH.cons rfl (fun K hK=>?_) AllReadyH.nil
   go_simp
   refine hK.out _ _ (row_keepX hS ((Below.refl _ W3).alloc (Nat.le_refl _) _)) (fun hS2=>?_)
   clear hK K
   (try simp only [Act.put,zx1,zx2,zx3,zx4,zx5,zx6])
   refine wpAnyH_ready (rs:=[9]) (by kernel_rfl) (by simp) ?_
   refine AllReadyH.cons rfl (fun K hK=>?_) AllReadyH.nil
   go_simp
   refine hcat.mono ?_
   rintro e W9 ⟨v9,rfl,b9,o9⟩
   refine hK.out _ _ (row_keepX hS b9) (fun hS=>?_)
   clear hK K hcat hS2
   (try simp only [Act.put,zx1,zx2,zx3,zx4,zx5,zx6])
   (refine wpAnyH_take (i:=10) (v:=?_) rfl (by kernel_rfl) (by kernel_rfl) (by kernel_rfl) (fun _ _ _ h=>h) (Or.inl ⟨by rfl,?_⟩) hS ?_);rotate_left;(focus (intro w' hSw;(have g2:=row_cellsX hSw 2);(have g3:=row_cellsX hSw 3);simp only [List.getElem?_toArray,List.getElem?_cons_succ,List.getElem?_cons_zero] at g2 g3;go_simp;(try with_reducible rfl)));(try simp only [Act.put,zx1,zx2,zx3,zx4,zx5,zx6])
   refine wpAnyH_done (by kernel_rfl) ?_ _
   have HF:=hid (And.intro (hb.trans (b9.mono hb.size)) (o9.base hb.size))
   clear o9 b9 hb hS
   go_wp2
   go_ret
   exact ⟨_,rfl,HF.out.1,HF.out.2⟩
  refine AllReadyH.cons rfl (fun K hK=>?_) AllReadyH.nil
  have bN:Below W1.heap.size W1 (W1.alloc (.cells #[.string ⟨#[41]⟩,.string ⟨#[]⟩] 9)):=(Below.refl _ W1).alloc (Nat.le_refl _) _
  have hS':=row_keepX hS bN
  have o2':OS (W1.alloc (.cells #[.string ⟨#[41]⟩,.string ⟨#[]⟩] 9)) 0 (.slice (some ⟨W1.heap.size,0,none⟩) 2 2) [⟨#[41]⟩,tK]:=os_lit (l:=[.string ⟨#[41]⟩,.string ⟨#[]⟩]) rfl (World.alloc_heap_new W1 _) (Nat.zero_le _) (by simp)
  have hb':=hb.trans (bN.mono hb.size)
  have o0':=o0.below bN
  go_simp
  refine hK.out _ _ hS' (fun _=>?_)
  clear hK K
  (try simp only [Act.put,zx1,zx2,zx3,zx4,zx5,zx6])
  clear hS hb bN o0
  generalize hsz2:W1.heap.size=z2 at *
  generalize W1.alloc (.cells #[.string ⟨#[41]⟩,.string ⟨#[]⟩] 9)=W2 at *
  have hS:=hS';have hb:=hb';have o0:=o0';have o2:=o2'
  clear hS' hb' o0' o2'
  refine wpAnyH_ready (rs:=[6]) (by kernel_rfl) (by simp) ?_
  refine AllReadyH.cons rfl (fun K hK=>?_) AllReadyH.nil
  go_simp
  refine (cc _).mono ?_
  rintro e W3 ⟨v1,rfl,bN,o1'⟩
  have hS':=row_keepX hS bN
  have hb':=hb.trans (bN.mono hb.size)
  replace o1':=o1'.base (Nat.zero_le _)
  have o0':=o0.below bN
  have o2':=o2.below bN
  obtain ⟨oo,oc,rfl⟩:=slice_ofX o1'
  refine hK.out _ _ hS' (fun _=>?_)
  clear hK K
  (try simp only [Act.put,zx1,zx2,zx3,zx4,zx5,zx6])
  clear hS hb bN o0 o2
  have hS:=hS';have hb:=hb';have o0:=o0';have o2:=o2';have o1:=o1'
  clear hS' hb' o0' o2' o1'
  have hcat:=cat3 W3 _ _ _ _ _ _ o0 o1 o2 (by simp;omega) (by first | (simp;done) | (simp;omega))
  rw [HL0.out] at hcat
  clear o0 o1 o2
  refine wpAnyH_ready (rs:=[8]) (by kernel_rfl) (by simp) ?_
  refine AllReadyH.cons rfl (fun K hK=>?_) AllReadyH.nil
  go_simp
  refine hK.out _ _ (row_keepX hS ((Below.refl _ W3).alloc (Nat.le_refl _) _)) (fun hS2=>?_)
  clear hK K
  (try simp only [Act.put,zx1,zx2,zx3,zx4,zx5,zx6])
  refine wpAnyH_ready (rs:=[9]) (by kernel_rfl) (by simp) ?_
  refine AllReadyH.cons rfl (fun K hK=>?_) AllReadyH.nil
  go_simp
  refine hcat.mono ?_
  rintro e W9 ⟨v9,rfl,b9,o9⟩
  refine hK.out _ _ (row_keepX hS b9) (fun hS=>?_)
  clear hK K hcat hS2
  (try simp only [Act.put,zx1,zx2,zx3,zx4,zx5,zx6])
  (refine wpAnyH_take (i:=10) (v:=?_) rfl (by kernel_rfl) (by kernel_rfl) (by kernel_rfl) (fun _ _ _ h=>h) (Or.inl ⟨by rfl,?_⟩) hS ?_);rotate_left;(focus (intro w' hSw;(have g2:=row_cellsX hSw 2);(have g3:=row_cellsX hSw 3);simp only [List.getElem?_toArray,List.getElem?_cons_succ,List.getElem?_cons_zero] at g2 g3;go_simp;(try with_reducible rfl)));(try simp only [Act.put,zx1,zx2,zx3,zx4,zx5,zx6])
  refine wpAnyH_done (by kernel_rfl) ?_ _
  have HF:=hid (And.intro (hb.trans (b9.mono hb.size)) (o9.base hb.size))
  clear o9 b9 hb hS
  go_wp2
  go_ret
  exact ⟨_,rfl,HF.out.1,HF.out.2⟩
 refine AllReadyH.cons rfl (fun K hK=>?_) ?_
 ·
  go_simp
  refine (cc _).mono ?_
  rintro e W1 ⟨v1,rfl,bN,o1'⟩
  have hS':=row_keepX hS bN
  have hb':=hb.trans (bN.mono hb.size)
  replace o1':=o1'.base (Nat.zero_le _)
  obtain ⟨oo,oc,rfl⟩:=slice_ofX o1'
  refine hK.out _ _ hS' (fun _=>?_)
  clear hK K
  (try simp only [Act.put,zx1,zx2,zx3,zx4,zx5,zx6])
  clear hS hb bN
  have hS:=hS';have hb:=hb';have o1:=o1'
  clear hS' hb' o1'
  refine wpAnyH_ready (rs:=[2,7]) (by kernel_rfl) (by simp) ?_
  refine AllReadyH.cons rfl (fun K hK=>?_) ?_
  ·
   have bN:Below W1.heap.size W1 (W1.alloc (.cells #[.string ⟨#[102,110]⟩,.string t,.string ⟨#[40]⟩] 9)):=(Below.refl _ W1).alloc (Nat.le_refl _) _
   have hS':=row_keepX hS bN
   have o0':OS (W1.alloc (.cells #[.string ⟨#[102,110]⟩,.string t,.string ⟨#[40]⟩] 9)) 0 (.slice (some ⟨W1.heap.size,0,none⟩) 3 3) [⟨#[102,110]⟩,t,⟨#[40]⟩]:=os_lit (l:=[.string ⟨#[102,110]⟩,.string t,.string ⟨#[40]⟩]) rfl (World.alloc_heap_new W1 _) (Nat.zero_le _) (by simp)
   have hb':=hb.trans (bN.mono hb.size)
   have o1':=o1.below bN
   go_simp
   refine hK.out _ _ hS' (fun _=>?_)
   clear hK K
   (try simp only [Act.put,zx1,zx2,zx3,zx4,zx5,zx6])
   clear hS hb bN o1
   generalize hsz0:W1.heap.size=z0 at *
   generalize W1.alloc (.cells #[.string ⟨#[102,110]⟩,.string t,.string ⟨#[40]⟩] 9)=W2 at *
   have hS:=hS';have hb:=hb';have o1:=o1';have o0:=o0'
   clear hS' hb' o1' o0'
   refine wpAnyH_ready (rs:=[7]) (by kernel_rfl) (by simp) ?_
   refine AllReadyH.cons rfl (fun K hK=>?_) AllReadyH.nil
   have bN:Below W2.heap.size W2 (W2.alloc (.cells #[.string ⟨#[41]⟩,.string ⟨#[]⟩] 9)):=(Below.refl _ W2).alloc (Nat.le_refl _) _
   have hS':=row_keepX hS bN
   have o2':OS (W2.alloc (.cells #[.string ⟨#[41]⟩,.string ⟨#[]⟩] 9)) 0 (.slice (some ⟨W2.heap.size,0,none⟩) 2 2) [⟨#[41]⟩,tK]:=os_lit (l:=[.string ⟨#[41]⟩,.string ⟨#[]⟩]) rfl (World.alloc_heap_new W2 _) (Nat.zero_le _) (by simp)
   have hb':=hb.trans (bN.mono hb.size)
   have o1':=o1.below bN
   have o0':=o0.below bN
   go_simp
   refine hK.out _ _ hS' (fun _=>?_)
   clear hK K
   (try simp only [Act.put,zx1,zx2,zx3,zx4,zx5,zx6])
   clear hS hb bN o1 o0
   generalize hsz2:W2.heap.size=z2 at *
   generalize W2.alloc (.cells #[.string ⟨#[41]⟩,.string ⟨#[]⟩] 9)=W3 at *
   have hS:=hS';have hb:=hb';have o1:=o1';have o0:=o0';have o2:=o2'
   clear hS' hb' o1' o0' o2'
   have hcat:=cat3 W3 _ _ _ _ _ _ o0 o1 o2 (by simp;omega) (by first | (simp;done) | (simp;omega))
   rw [HL0.out] at hcat
   clear o0 o1 o2
   refine wpAnyH_ready (rs:=[8]) (by kernel_rfl) (by simp) ?_
   refine AllReadyH.cons rfl (fun K hK=>?_) AllReadyH.nil
   go_simp
   refine hK.out _ _ (row_keepX hS ((Below.refl _ W3).alloc (Nat.le_refl _) _)) (fun hS2=>?_)
   clear hK K
   (try simp only [Act.put,zx1,zx2,zx3,zx4,zx5,zx6])
   refine wpAnyH_ready (rs:=[9]) (by kernel_rfl) (by simp) ?_
   refine AllReadyH.cons rfl (fun K hK=>?_) AllReadyH.nil
   go_simp
   refine hcat.mono ?_
   rintro e W9 ⟨v9,rfl,b9,o9⟩
   refine hK.out _ _ (row_keepX hS b9) (fun hS=>?_)
   clear hK K hcat hS2
   (try simp only [Act.put,zx1,zx2,zx3,zx4,zx5,zx6])
   (refine wpAnyH_take (i:=10) (v:=?_) rfl (by kernel_rfl) (by kernel_rfl) (by kernel_rfl) (fun _ _ _ h=>h) (Or.inl ⟨by rfl,?_⟩) hS ?_);rotate_left;(focus (intro w' hSw;(have g2:=row_cellsX hSw 2);(have g3:=row_cellsX hSw 3);simp only [List.getElem?_toArray,List.getElem?_cons_succ,List.getElem?_cons_zero] at g2 g3;go_simp;(try with_reducible rfl)));(try simp only [Act.put,zx1,zx2,zx3,zx4,zx5,zx6])
   refine wpAnyH_done (by kernel_rfl) ?_ _
   have HF:=hid (And.intro (hb.trans (b9.mono hb.size)) (o9.base hb.size))
   clear o9 b9 hb hS
   go_wp2
   go_ret
   exact ⟨_,rfl,HF.out.1,HF.out.2⟩
  refine AllReadyH.cons rfl (fun K hK=>?_) AllReadyH.nil
  have bN:Below W1.heap.size W1 (W1.alloc (.cells #[.string ⟨#[41]⟩,.string ⟨#[]⟩] 9)):=(Below.refl _ W1).alloc (Nat.le_refl _) _
  have hS':=row_keepX hS bN
  have o2':OS (W1.alloc (.cells #[.string ⟨#[41]⟩,.string ⟨#[]⟩] 9)) 0 (.slice (some ⟨W1.heap.size,0,none⟩) 2 2) [⟨#[41]⟩,tK]:=os_lit (l:=[.string ⟨#[41]⟩,.string ⟨#[]⟩]) rfl (World.alloc_heap_new W1 _) (Nat.zero_le _) (by simp)
  have hb':=hb.trans (bN.mono hb.size)
  have o1':=o1.below bN
  go_simp
  refine hK.out _ _ hS' (fun _=>?_)
  clear hK K
  (try simp only [Act.put,zx1,zx2,zx3,zx4,zx5,zx6])
  clear hS hb bN o1
  generalize hsz2:W1.heap.size=z2 at *
  generalize W1.alloc (.cells #[.string ⟨#[41]⟩,.string ⟨#[]⟩] 9)=W2 at *
  have hS:=hS';have hb:=hb';have o1:=o1';have o2:=o2'
  clear hS' hb' o1' o2'
  refine wpAnyH_ready (rs:=[2]) (by kernel_rfl) (by simp) ?_
  refine AllReadyH.cons rfl (fun K hK=>?_) AllReadyH.nil
  have bN:Below W2.heap.size W2 (W2.alloc (.cells #[.string ⟨#[102,110]⟩,.string t,.string ⟨#[40]⟩] 9)):=(Below.refl _ W2).alloc (Nat.le_refl _) _
  have hS':=row_keepX hS bN
  have o0':OS (W2.alloc (.cells #[.string ⟨#[102,110]⟩,.string t,.string ⟨#[40]⟩] 9)) 0 (.slice (some ⟨W2.heap.size,0,none⟩) 3 3) [⟨#[102,110]⟩,t,⟨#[40]⟩]:=os_lit (l:=[.string ⟨#[102,110]⟩,.string t,.string ⟨#[40]⟩]) rfl (World.alloc_heap_new W2 _) (Nat.zero_le _) (by simp)
  have hb':=hb.trans (bN.mono hb.size)
  have o1':=o1.below bN
  have o2':=o2.below bN
  go_simp
  refine hK.out _ _ hS' (fun _=>?_)
  clear hK K
  (try simp only [Act.put,zx1,zx2,zx3,zx4,zx5,zx6])
  clear hS hb bN o1 o2
  generalize hsz0:W2.heap.size=z0 at *
  generalize W2.alloc (.cells #[.string ⟨#[102,110]⟩,.string t,.string ⟨#[40]⟩] 9)=W3 at *
  have hS:=hS';have hb:=hb';have o1:=o1';have o2:=o2';have o0:=o0'
  clear hS' hb' o1' o2' o0'
  have hcat:=cat3 W3 _ _ _ _ _ _ o0 o1 o2 (by simp;omega) (by first | (simp;done) | (simp;omega))
  rw [HL0.out] at hcat
  clear o0 o1 o2
  refine wpAnyH_ready (rs:=[8]) (by kernel_rfl) (by simp) ?_
  refine AllReadyH.cons rfl (fun K hK=>?_) AllReadyH.nil
  go_simp
  refine hK.out _ _ (row_keepX hS ((Below.refl _ W3).alloc (Nat.le_refl _) _)) (fun hS2=>?_)
  clear hK K
  (try simp only [Act.put,zx1,zx2,zx3,zx4,zx5,zx6])
  refine wpAnyH_ready (rs:=[9]) (by kernel_rfl) (by simp) ?_
  refine AllReadyH.cons rfl (fun K hK=>?_) AllReadyH.nil
  go_simp
  refine hcat.mono ?_
  rintro e W9 ⟨v9,rfl,b9,o9⟩
  refine hK.out _ _ (row_keepX hS b9) (fun hS=>?_)
  clear hK K hcat hS2
  (try simp only [Act.put,zx1,zx2,zx3,zx4,zx5,zx6])
  (refine wpAnyH_take (i:=10) (v:=?_) rfl (by kernel_rfl) (by kernel_rfl) (by kernel_rfl) (fun _ _ _ h=>h) (Or.inl ⟨by rfl,?_⟩) hS ?_);rotate_left;(focus (intro w' hSw;(have g2:=row_cellsX hSw 2);(have g3:=row_cellsX hSw 3);simp only [List.getElem?_toArray,List.getElem?_cons_succ,List.getElem?_cons_zero] at g2 g3;go_simp;(try with_reducible rfl)));(try simp only [Act.put,zx1,zx2,zx3,zx4,zx5,zx6])
  refine wpAnyH_done (by kernel_rfl) ?_ _
  have HF:=hid (And.intro (hb.trans (b9.mono hb.size)) (o9.base hb.size))
  clear o9 b9 hb hS
  go_wp2
  go_ret
  exact ⟨_,rfl,HF.out.1,HF.out.2⟩
 refine AllReadyH.cons rfl (fun K hK=>?_) AllReadyH.nil
 have bN:Below W0.heap.size W0 (W0.alloc (.cells #[.string ⟨#[41]⟩,.string ⟨#[]⟩] 9)):=(Below.refl _ W0).alloc (Nat.le_refl _) _
 have hS':=row_keepX hS bN
 have o2':OS (W0.alloc (.cells #[.string ⟨#[41]⟩,.string ⟨#[]⟩] 9)) 0 (.slice (some ⟨W0.heap.size,0,none⟩) 2 2) [⟨#[41]⟩,tK]:=os_lit (l:=[.string ⟨#[41]⟩,.string ⟨#[]⟩]) rfl (World.alloc_heap_new W0 _) (Nat.zero_le _) (by simp)
 have hb':=hb.trans (bN.mono hb.size)
 go_simp
 refine hK.out _ _ hS' (fun _=>?_)
 clear hK K
 (try simp only [Act.put,zx1,zx2,zx3,zx4,zx5,zx6])
 clear hS hb bN
 generalize hsz2:W0.heap.size=z2 at *
 generalize W0.alloc (.cells #[.string ⟨#[41]⟩,.string ⟨#[]⟩] 9)=W1 at *
 have hS:=hS';have hb:=hb';have o2:=o2'
 clear hS' hb' o2'
 refine wpAnyH_ready (rs:=[2,6]) (by kernel_rfl) (by simp) ?_
 refine AllReadyH.cons rfl (fun K hK=>?_) ?_
 ·
  have bN:Below W1.heap.size W1 (W1.alloc (.cells #[.string ⟨#[102,110]⟩,.string t,.string ⟨#[40]⟩] 9)):=(Below.refl _ W1).alloc (Nat.le_refl _) _
  have hS':=row_keepX hS bN
  have o0':OS (W1.alloc (.cells #[.string ⟨#[102,110]⟩,.string t,.string ⟨#[40]⟩] 9)) 0 (.slice (some ⟨W1.heap.size,0,none⟩) 3 3) [⟨#[102,110]⟩,t,⟨#[40]⟩]:=os_lit (l:=[.string ⟨#[102,110]⟩,.string t,.string ⟨#[40]⟩]) rfl (World.alloc_heap_new W1 _) (Nat.zero_le _) (by simp)
  have hb':=hb.trans (bN.mono hb.size)
  have o2':=o2.below bN
  go_simp
  refine hK.out _ _ hS' (fun _=>?_)
  clear hK K
  (try simp only [Act.put,zx1,zx2,zx3,zx4,zx5,zx6])
  clear hS hb bN o2
  generalize hsz0:W1.heap.size=z0 at *
  generalize W1.alloc (.cells #[.string ⟨#[102,110]⟩,.string t,.string ⟨#[40]⟩] 9)=W2 at *
  have hS:=hS';have hb:=hb';have o2:=o2';have o0:=o0'
  clear hS' hb' o2' o0'
  refine wpAnyH_ready (rs:=[6]) (by kernel_rfl) (by simp) ?_
  refine AllReadyH.cons rfl (fun K hK=>?_) AllReadyH.nil
  go_simp
  refine (cc _).mono ?_
  rintro e W3 ⟨v1,rfl,bN,o1'⟩
  have hS':=row_keepX hS bN
  have hb':=hb.trans (bN.mono hb.size)
  replace o1':=o1'.base (Nat.zero_le _)
  have o2':=o2.below bN
  have o0':=o0.below bN
  obtain ⟨oo,oc,rfl⟩:=slice_ofX o1'
  refine hK.out _ _ hS' (fun _=>?_)
  clear hK K
  (try simp only [Act.put,zx1,zx2,zx3,zx4,zx5,zx6])
  clear hS hb bN o2 o0
  have hS:=hS';have hb:=hb';have o2:=o2';have o0:=o0';have o1:=o1'
  clear hS' hb' o2' o0' o1'
  have hcat:=cat3 W3 _ _ _ _ _ _ o0 o1 o2 (by simp;omega) (by first | (simp;done) | (simp;omega))
  rw [HL0.out] at hcat
  clear o0 o1 o2
  refine wpAnyH_ready (rs:=[8]) (by kernel_rfl) (by simp) ?_
  refine AllReadyH.cons rfl (fun K hK=>?_) AllReadyH.nil
  go_simp
  refine hK.out _ _ (row_keepX hS ((Below.refl _ W3).alloc (Nat.le_refl _) _)) (fun hS2=>?_)
  clear hK K
  (try simp only [Act.put,zx1,zx2,zx3,zx4,zx5,zx6])
  refine wpAnyH_ready (rs:=[9]) (by kernel_rfl) (by simp) ?_
  refine AllReadyH.cons rfl (fun K hK=>?_) AllReadyH.nil
  go_simp
  refine hcat.mono ?_
  rintro e W9 ⟨v9,rfl,b9,o9⟩
  refine hK.out _ _ (row_keepX hS b9) (fun hS=>?_)
  clear hK K hcat hS2
  (try simp only [Act.put,zx1,zx2,zx3,zx4,zx5,zx6])
  (refine wpAnyH_take (i:=10) (v:=?_) rfl (by kernel_rfl) (by kernel_rfl) (by kernel_rfl) (fun _ _ _ h=>h) (Or.inl ⟨by rfl,?_⟩) hS ?_);rotate_left;(focus (intro w' hSw;(have g2:=row_cellsX hSw 2);(have g3:=row_cellsX hSw 3);simp only [List.getElem?_toArray,List.getElem?_cons_succ,List.getElem?_cons_zero] at g2 g3;go_simp;(try with_reducible rfl)));(try simp only [Act.put,zx1,zx2,zx3,zx4,zx5,zx6])
  refine wpAnyH_done (by kernel_rfl) ?_ _
  have HF:=hid (And.intro (hb.trans (b9.mono hb.size)) (o9.base hb.size))
  clear o9 b9 hb hS
  go_wp2
  go_ret
  exact ⟨_,rfl,HF.out.1,HF.out.2⟩
 refine AllReadyH.cons rfl (fun K hK=>?_) AllReadyH.nil
 go_simp
 refine (cc _).mono ?_
 rintro e W2 ⟨v1,rfl,bN,o1'⟩
 have hS':=row_keepX hS bN
 have hb':=hb.trans (bN.mono hb.size)
 replace o1':=o1'.base (Nat.zero_le _)
 have o2':=o2.below bN
 obtain ⟨oo,oc,rfl⟩:=slice_ofX o1'
 refine hK.out _ _ hS' (fun _=>?_)
 clear hK K
 (try simp only [Act.put,zx1,zx2,zx3,zx4,zx5,zx6])
 clear hS hb bN o2
 have hS:=hS';have hb:=hb';have o2:=o2';have o1:=o1'
 clear hS' hb' o2' o1'
 refine wpAnyH_ready (rs:=[2]) (by kernel_rfl) (by simp) ?_
 refine AllReadyH.cons rfl (fun K hK=>?_) AllReadyH.nil
 have bN:Below W2.heap.size W2 (W2.alloc (.cells #[.string ⟨#[102,110]⟩,.string t,.string ⟨#[40]⟩] 9)):=(Below.refl _ W2).alloc (Nat.le_refl _) _
 have hS':=row_keepX hS bN
 have o0':OS (W2.alloc (.cells #[.string ⟨#[102,110]⟩,.string t,.string ⟨#[40]⟩] 9)) 0 (.slice (some ⟨W2.heap.size,0,none⟩) 3 3) [⟨#[102,110]⟩,t,⟨#[40]⟩]:=os_lit (l:=[.string ⟨#[102,110]⟩,.string t,.string ⟨#[40]⟩]) rfl (World.alloc_heap_new W2 _) (Nat.zero_le _) (by simp)
 have hb':=hb.trans (bN.mono hb.size)
 have o2':=o2.below bN
 have o1':=o1.below bN
 go_simp
 refine hK.out _ _ hS' (fun _=>?_)
 clear hK K
 (try simp only [Act.put,zx1,zx2,zx3,zx4,zx5,zx6])
 clear hS hb bN o2 o1
 generalize hsz0:W2.heap.size=z0 at *
 generalize W2.alloc (.cells #[.string ⟨#[102,110]⟩,.string t,.string ⟨#[40]⟩] 9)=W3 at *
 have hS:=hS';have hb:=hb';have o2:=o2';have o1:=o1';have o0:=o0'
 clear hS' hb' o2' o1' o0'
 have hcat:=cat3 W3 _ _ _ _ _ _ o0 o1 o2 (by simp;omega) (by first | (simp;done) | (simp;omega))
 rw [HL0.out] at hcat
 clear o0 o1 o2
 refine wpAnyH_ready (rs:=[8]) (by kernel_rfl) (by simp) ?_
 refine AllReadyH.cons rfl (fun K hK=>?_) AllReadyH.nil
 go_simp
 refine hK.out _ _ (row_keepX hS ((Below.refl _ W3).alloc (Nat.le_refl _) _)) (fun hS2=>?_)
 clear hK K
 (try simp only [Act.put,zx1,zx2,zx3,zx4,zx5,zx6])
 refine wpAnyH_ready (rs:=[9]) (by kernel_rfl) (by simp) ?_
 refine AllReadyH.cons rfl (fun K hK=>?_) AllReadyH.nil
 go_simp
 refine hcat.mono ?_
 rintro e W9 ⟨v9,rfl,b9,o9⟩
 refine hK.out _ _ (row_keepX hS b9) (fun hS=>?_)
 clear hK K hcat hS2
 (try simp only [Act.put,zx1,zx2,zx3,zx4,zx5,zx6])
 (refine wpAnyH_take (i:=10) (v:=?_) rfl (by kernel_rfl) (by kernel_rfl) (by kernel_rfl) (fun _ _ _ h=>h) (Or.inl ⟨by rfl,?_⟩) hS ?_);rotate_left;(focus (intro w' hSw;(have g2:=row_cellsX hSw 2);(have g3:=row_cellsX hSw 3);simp only [List.getElem?_toArray,List.getElem?_cons_succ,List.getElem?_cons_zero] at g2 g3;go_simp;(try with_reducible rfl)));(try simp only [Act.put,zx1,zx2,zx3,zx4,zx5,zx6])
 refine wpAnyH_done (by kernel_rfl) ?_ _
 have HF:=hid (And.intro (hb.trans (b9.mono hb.size)) (o9.base hb.size))
 clear o9 b9 hb hS
 go_wp2
 go_ret
 exact ⟨_,rfl,HF.out.1,HF.out.2⟩
set_option maxRecDepth 100000 in
set_option maxHeartbeats 2000000 in
theorem ex_23 (hc:c≤1000000):TK 63 #[nodV 23 a c t i b] ([t,⟨#[40]⟩] ++ comT c ++ [⟨#[41]⟩]) w:=by
 have cc:=fun w=>(show Calls Tryz.prog 61 #[.int .i64 (c:Int)] w fun e w'=>∃ v,e=.returned v∧Below w.heap.size w w'∧OS w' w.heap.size v (comT c) from commas_c c (by omega) w)
 unfold TK nodV at *
 have hn:=World.alloc_heap_new w (.cells #[.int .i64 23,.int .i64 a,.int .i64 (c:Nat),.string t,.int .i64 i,.int .u64 b] 44)
 have hb:Below w.heap.size w (w.alloc (.cells #[.int .i64 23,.int .i64 a,.int .i64 (c:Nat),.string t,.int .i64 i,.int .u64 b] 44)):=(Below.refl _ w).alloc (Nat.le_refl _) _
 revert cc
 generalize hcl:comT c=CL
 have hCL:CL.length≤2000000:=by rw [← hcl];(have:=comT_len c;omega)
 clear hcl
 intro cc
 obtain ⟨L0,hL0⟩:∃ L0,[t,⟨#[40]⟩] ++ CL ++ [⟨#[41]⟩]=L0:=⟨_,rfl⟩
 rw [hL0]
 have HL0:=hid hL0
 clear hL0
 go_enter Tryz.func63,Tryz.ntmps63
 go_upto_region 13 with fail
 generalize w.alloc _=W at *
 refine wp_region_held_drew (S:=fun w'=>w'.heap[w.heap.size]? = some (.cells #[.int .i64 23,.int .i64 a,.int .i64 (c:Nat),.string t,.int .i64 i,.int .u64 b] 44 (0,0))) (by kernel_rfl) hn ?_
 intro hS
 replace hb:=hb.drew
 clear hn
 (refine wpAnyH_take (i:=0) (v:=?_) rfl (by kernel_rfl) (by kernel_rfl) (by kernel_rfl) (fun _ _ _ h=>h) (Or.inl ⟨by rfl,?_⟩) hS ?_);rotate_left;(focus (intro w' hSw;(have g2:=row_cellsX hSw 2);(have g3:=row_cellsX hSw 3);simp only [List.getElem?_toArray,List.getElem?_cons_succ,List.getElem?_cons_zero] at g2 g3;go_simp;(try with_reducible rfl)));(try simp only [Act.put,zx1,zx2,zx3,zx4,zx5,zx6])
 (refine wpAnyH_take (i:=1) (v:=?_) rfl (by kernel_rfl) (by kernel_rfl) (by kernel_rfl) (fun _ _ _ h=>h) (Or.inl ⟨by rfl,?_⟩) hS ?_);rotate_left;(focus (intro w' hSw;(have g2:=row_cellsX hSw 2);(have g3:=row_cellsX hSw 3);simp only [List.getElem?_toArray,List.getElem?_cons_succ,List.getElem?_cons_zero] at g2 g3;go_simp;(try with_reducible rfl)));(try simp only [Act.put,zx1,zx2,zx3,zx4,zx5,zx6])
 (refine wpAnyH_take (i:=3) (v:=?_) rfl (by kernel_rfl) (by kernel_rfl) (by kernel_rfl) (fun _ _ _ h=>h) (Or.inl ⟨by rfl,?_⟩) hS ?_);rotate_left;(focus (intro w' hSw;(have g2:=row_cellsX hSw 2);(have g3:=row_cellsX hSw 3);simp only [List.getElem?_toArray,List.getElem?_cons_succ,List.getElem?_cons_zero] at g2 g3;go_simp;(try with_reducible rfl)));(try simp only [Act.put,zx1,zx2,zx3,zx4,zx5,zx6])
 (refine wpAnyH_take (i:=4) (v:=?_) rfl (by kernel_rfl) (by kernel_rfl) (by kernel_rfl) (fun _ _ _ h=>h) (Or.inl ⟨by rfl,?_⟩) hS ?_);rotate_left;(focus (intro w' hSw;(have g2:=row_cellsX hSw 2);(have g3:=row_cellsX hSw 3);simp only [List.getElem?_toArray,List.getElem?_cons_succ,List.getElem?_cons_zero] at g2 g3;go_simp;(try with_reducible rfl)));(try simp only [Act.put,zx1,zx2,zx3,zx4,zx5,zx6])
 generalize W.drew=W0 at *
 refine wpAnyH_ready (rs:=[2,5,6]) (by kernel_rfl) (by simp) ?_
 refine AllReadyH.cons rfl (fun K hK=>?_) ?_
 ·
  have bN:Below W0.heap.size W0 (W0.alloc (.cells #[.string t,.string ⟨#[40]⟩] 9)):=(Below.refl _ W0).alloc (Nat.le_refl _) _
  have hS':=row_keepX hS bN
  have o0':OS (W0.alloc (.cells #[.string t,.string ⟨#[40]⟩] 9)) 0 (.slice (some ⟨W0.heap.size,0,none⟩) 2 2) [t,⟨#[40]⟩]:=os_lit (l:=[.string t,.string ⟨#[40]⟩]) rfl (World.alloc_heap_new W0 _) (Nat.zero_le _) (by simp)
  have hb':=hb.trans (bN.mono hb.size)
  go_simp
  refine hK.out _ _ hS' (fun _=>?_)
  clear hK K
  (try simp only [Act.put,zx1,zx2,zx3,zx4,zx5,zx6])
  clear hS hb bN
  generalize hsz0:W0.heap.size=z0 at *
  generalize W0.alloc (.cells #[.string t,.string ⟨#[40]⟩] 9)=W1 at *
  have hS:=hS';have hb:=hb';have o0:=o0'
  clear hS' hb' o0'
  refine wpAnyH_ready (rs:=[5,6]) (by kernel_rfl) (by simp) ?_
  refine AllReadyH.cons rfl (fun K hK=>?_) ?_
  ·
   go_simp
   refine (cc _).mono ?_
   rintro e W2 ⟨v1,rfl,bN,o1'⟩
   have hS':=row_keepX hS bN
   have hb':=hb.trans (bN.mono hb.size)
   replace o1':=o1'.base (Nat.zero_le _)
   have o0':=o0.below bN
   obtain ⟨oo,oc,rfl⟩:=slice_ofX o1'
   refine hK.out _ _ hS' (fun _=>?_)
   clear hK K
   (try simp only [Act.put,zx1,zx2,zx3,zx4,zx5,zx6])
   clear hS hb bN o0
   have hS:=hS';have hb:=hb';have o0:=o0';have o1:=o1'
   clear hS' hb' o0' o1'
   refine wpAnyH_ready (rs:=[6]) (by kernel_rfl) (by simp) ?_
   refine AllReadyH.cons rfl (fun K hK=>?_) AllReadyH.nil
   have bN:Below W2.heap.size W2 (W2.alloc (.cells #[.string ⟨#[41]⟩] 9)):=(Below.refl _ W2).alloc (Nat.le_refl _) _
   have hS':=row_keepX hS bN
   have o2':OS (W2.alloc (.cells #[.string ⟨#[41]⟩] 9)) 0 (.slice (some ⟨W2.heap.size,0,none⟩) 1 1) [⟨#[41]⟩]:=os_lit (l:=[.string ⟨#[41]⟩]) rfl (World.alloc_heap_new W2 _) (Nat.zero_le _) (by simp)
   have hb':=hb.trans (bN.mono hb.size)
   have o0':=o0.below bN
   have o1':=o1.below bN
   go_simp
   refine hK.out _ _ hS' (fun _=>?_)
   clear hK K
   (try simp only [Act.put,zx1,zx2,zx3,zx4,zx5,zx6])
   clear hS hb bN o0 o1
   generalize hsz2:W2.heap.size=z2 at *
   generalize W2.alloc (.cells #[.string ⟨#[41]⟩] 9)=W3 at *
   have hS:=hS';have hb:=hb';have o0:=o0';have o1:=o1';have o2:=o2'
   clear hS' hb' o0' o1' o2'
   have hcat:=cat3 W3 _ _ _ _ _ _ o0 o1 o2 (by simp;omega) (by first | (simp;done) | (simp;omega))
   rw [HL0.out] at hcat
   clear o0 o1 o2
   refine wpAnyH_ready (rs:=[7]) (by kernel_rfl) (by simp) ?_
   refine AllReadyH.cons rfl (fun K hK=>?_) AllReadyH.nil
   go_simp
   refine hK.out _ _ (row_keepX hS ((Below.refl _ W3).alloc (Nat.le_refl _) _)) (fun hS2=>?_)
   clear hK K
   (try simp only [Act.put,zx1,zx2,zx3,zx4,zx5,zx6])
   refine wpAnyH_ready (rs:=[8]) (by kernel_rfl) (by simp) ?_
   refine AllReadyH.cons rfl (fun K hK=>?_) AllReadyH.nil
   go_simp
   refine hcat.mono ?_
   rintro e W9 ⟨v9,rfl,b9,o9⟩
   refine hK.out _ _ (row_keepX hS b9) (fun hS=>?_)
   clear hK K hcat hS2
   (try simp only [Act.put,zx1,zx2,zx3,zx4,zx5,zx6])
   (refine wpAnyH_take (i:=9) (v:=?_) rfl (by kernel_rfl) (by kernel_rfl) (by kernel_rfl) (fun _ _ _ h=>h) (Or.inl ⟨by rfl,?_⟩) hS ?_);rotate_left;(focus (intro w' hSw;(have g2:=row_cellsX hSw 2);(have g3:=row_cellsX hSw 3);simp only [List.getElem?_toArray,List.getElem?_cons_succ,List.getElem?_cons_zero] at g2 g3;go_simp;(try with_reducible rfl)));(try simp only [Act.put,zx1,zx2,zx3,zx4,zx5,zx6])
   refine wpAnyH_done (by kernel_rfl) ?_ _
   have HF:=hid (And.intro (hb.trans (b9.mono hb.size)) (o9.base hb.size))
   clear o9 b9 hb hS
   go_wp2
   go_ret
   exact ⟨_,rfl,HF.out.1,HF.out.2⟩
  refine AllReadyH.cons rfl (fun K hK=>?_) AllReadyH.nil
  have bN:Below W1.heap.size W1 (W1.alloc (.cells #[.string ⟨#[41]⟩] 9)):=(Below.refl _ W1).alloc (Nat.le_refl _) _
  have hS':=row_keepX hS bN
  have o2':OS (W1.alloc (.cells #[.string ⟨#[41]⟩] 9)) 0 (.slice (some ⟨W1.heap.size,0,none⟩) 1 1) [⟨#[41]⟩]:=os_lit (l:=[.string ⟨#[41]⟩]) rfl (World.alloc_heap_new W1 _) (Nat.zero_le _) (by simp)
  have hb':=hb.trans (bN.mono hb.size)
  have o0':=o0.below bN
  go_simp
  refine hK.out _ _ hS' (fun _=>?_)
  clear hK K
  (try simp only [Act.put,zx1,zx2,zx3,zx4,zx5,zx6])
  clear hS hb bN o0
  generalize hsz2:W1.heap.size=z2 at *
  generalize W1.alloc (.cells #[.string ⟨#[41]⟩] 9)=W2 at *
  have hS:=hS';have hb:=hb';have o0:=o0';have o2:=o2'
  clear hS' hb' o0' o2'
  refine wpAnyH_ready (rs:=[5]) (by kernel_rfl) (by simp) ?_
  refine AllReadyH.cons rfl (fun K hK=>?_) AllReadyH.nil
  go_simp
  refine (cc _).mono ?_
  rintro e W3 ⟨v1,rfl,bN,o1'⟩
  have hS':=row_keepX hS bN
  have hb':=hb.trans (bN.mono hb.size)
  replace o1':=o1'.base (Nat.zero_le _)
  have o0':=o0.below bN
  have o2':=o2.below bN
  obtain ⟨oo,oc,rfl⟩:=slice_ofX o1'
  refine hK.out _ _ hS' (fun _=>?_)
  clear hK K
  (try simp only [Act.put,zx1,zx2,zx3,zx4,zx5,zx6])
  clear hS hb bN o0 o2
  have hS:=hS';have hb:=hb';have o0:=o0';have o2:=o2';have o1:=o1'
  clear hS' hb' o0' o2' o1'
  have hcat:=cat3 W3 _ _ _ _ _ _ o0 o1 o2 (by simp;omega) (by first | (simp;done) | (simp;omega))
  rw [HL0.out] at hcat
  clear o0 o1 o2
  refine wpAnyH_ready (rs:=[7]) (by kernel_rfl) (by simp) ?_
  refine AllReadyH.cons rfl (fun K hK=>?_) AllReadyH.nil
  go_simp
  refine hK.out _ _ (row_keepX hS ((Below.refl _ W3).alloc (Nat.le_refl _) _)) (fun hS2=>?_)
  clear hK K
  (try simp only [Act.put,zx1,zx2,zx3,zx4,zx5,zx6])
  refine wpAnyH_ready (rs:=[8]) (by kernel_rfl) (by simp) ?_
  refine AllReadyH.cons rfl (fun K hK=>?_) AllReadyH.nil
  go_simp
  refine hcat.mono ?_
  rintro e W9 ⟨v9,rfl,b9,o9⟩
  refine hK.out _ _ (row_keepX hS b9) (fun hS=>?_)
  clear hK K hcat hS2
  (try simp only [Act.put,zx1,zx2,zx3,zx4,zx5,zx6])
  (refine wpAnyH_take (i:=9) (v:=?_) rfl (by kernel_rfl) (by kernel_rfl) (by kernel_rfl) (fun _ _ _ h=>h) (Or.inl ⟨by rfl,?_⟩) hS ?_);rotate_left;(focus (intro w' hSw;(have g2:=row_cellsX hSw 2);(have g3:=row_cellsX hSw 3);simp only [List.getElem?_toArray,List.getElem?_cons_succ,List.getElem?_cons_zero] at g2 g3;go_simp;(try with_reducible rfl)));(try simp only [Act.put,zx1,zx2,zx3,zx4,zx5,zx6])
  refine wpAnyH_done (by kernel_rfl) ?_ _
  have HF:=hid (And.intro (hb.trans (b9.mono hb.size)) (o9.base hb.size))
  clear o9 b9 hb hS
  go_wp2
  go_ret
  exact ⟨_,rfl,HF.out.1,HF.out.2⟩
 refine AllReadyH.cons rfl (fun K hK=>?_) ?_
 ·
  go_simp
  refine (cc _).mono ?_
  rintro e W1 ⟨v1,rfl,bN,o1'⟩
  have hS':=row_keepX hS bN
  have hb':=hb.trans (bN.mono hb.size)
  replace o1':=o1'.base (Nat.zero_le _)
  obtain ⟨oo,oc,rfl⟩:=slice_ofX o1'
  refine hK.out _ _ hS' (fun _=>?_)
  clear hK K
  (try simp only [Act.put,zx1,zx2,zx3,zx4,zx5,zx6])
  clear hS hb bN
  have hS:=hS';have hb:=hb';have o1:=o1'
  clear hS' hb' o1'
  refine wpAnyH_ready (rs:=[2,6]) (by kernel_rfl) (by simp) ?_
  refine AllReadyH.cons rfl (fun K hK=>?_) ?_
  ·
   have bN:Below W1.heap.size W1 (W1.alloc (.cells #[.string t,.string ⟨#[40]⟩] 9)):=(Below.refl _ W1).alloc (Nat.le_refl _) _
   have hS':=row_keepX hS bN
   have o0':OS (W1.alloc (.cells #[.string t,.string ⟨#[40]⟩] 9)) 0 (.slice (some ⟨W1.heap.size,0,none⟩) 2 2) [t,⟨#[40]⟩]:=os_lit (l:=[.string t,.string ⟨#[40]⟩]) rfl (World.alloc_heap_new W1 _) (Nat.zero_le _) (by simp)
   have hb':=hb.trans (bN.mono hb.size)
   have o1':=o1.below bN
   go_simp
   refine hK.out _ _ hS' (fun _=>?_)
   clear hK K
   (try simp only [Act.put,zx1,zx2,zx3,zx4,zx5,zx6])
   clear hS hb bN o1
   generalize hsz0:W1.heap.size=z0 at *
   generalize W1.alloc (.cells #[.string t,.string ⟨#[40]⟩] 9)=W2 at *
   have hS:=hS';have hb:=hb';have o1:=o1';have o0:=o0'
   clear hS' hb' o1' o0'
   refine wpAnyH_ready (rs:=[6]) (by kernel_rfl) (by simp) ?_
   refine AllReadyH.cons rfl (fun K hK=>?_) AllReadyH.nil
   have bN:Below W2.heap.size W2 (W2.alloc (.cells #[.string ⟨#[41]⟩] 9)):=(Below.refl _ W2).alloc (Nat.le_refl _) _
   have hS':=row_keepX hS bN
   have o2':OS (W2.alloc (.cells #[.string ⟨#[41]⟩] 9)) 0 (.slice (some ⟨W2.heap.size,0,none⟩) 1 1) [⟨#[41]⟩]:=os_lit (l:=[.string ⟨#[41]⟩]) rfl (World.alloc_heap_new W2 _) (Nat.zero_le _) (by simp)
   have hb':=hb.trans (bN.mono hb.size)
   have o1':=o1.below bN
   have o0':=o0.below bN
   go_simp
   refine hK.out _ _ hS' (fun _=>?_)
   clear hK K
   (try simp only [Act.put,zx1,zx2,zx3,zx4,zx5,zx6])
   clear hS hb bN o1 o0
   generalize hsz2:W2.heap.size=z2 at *
   generalize W2.alloc (.cells #[.string ⟨#[41]⟩] 9)=W3 at *
   have hS:=hS';have hb:=hb';have o1:=o1';have o0:=o0';have o2:=o2'
   clear hS' hb' o1' o0' o2'
   have hcat:=cat3 W3 _ _ _ _ _ _ o0 o1 o2 (by simp;omega) (by first | (simp;done) | (simp;omega))
   rw [HL0.out] at hcat
   clear o0 o1 o2
   refine wpAnyH_ready (rs:=[7]) (by kernel_rfl) (by simp) ?_
   refine AllReadyH.cons rfl (fun K hK=>?_) AllReadyH.nil
   go_simp
   refine hK.out _ _ (row_keepX hS ((Below.refl _ W3).alloc (Nat.le_refl _) _)) (fun hS2=>?_)
   clear hK K
   (try simp only [Act.put,zx1,zx2,zx3,zx4,zx5,zx6])
   refine wpAnyH_ready (rs:=[8]) (by kernel_rfl) (by simp) ?_
   refine AllReadyH.cons rfl (fun K hK=>?_) AllReadyH.nil
   go_simp
   refine hcat.mono ?_
   rintro e W9 ⟨v9,rfl,b9,o9⟩
   refine hK.out _ _ (row_keepX hS b9) (fun hS=>?_)
   clear hK K hcat hS2
   (try simp only [Act.put,zx1,zx2,zx3,zx4,zx5,zx6])
   (refine wpAnyH_take (i:=9) (v:=?_) rfl (by kernel_rfl) (by kernel_rfl) (by kernel_rfl) (fun _ _ _ h=>h) (Or.inl ⟨by rfl,?_⟩) hS ?_);rotate_left;(focus (intro w' hSw;(have g2:=row_cellsX hSw 2);(have g3:=row_cellsX hSw 3);simp only [List.getElem?_toArray,List.getElem?_cons_succ,List.getElem?_cons_zero] at g2 g3;go_simp;(try with_reducible rfl)));(try simp only [Act.put,zx1,zx2,zx3,zx4,zx5,zx6])
   refine wpAnyH_done (by kernel_rfl) ?_ _
   have HF:=hid (And.intro (hb.trans (b9.mono hb.size)) (o9.base hb.size))
   clear o9 b9 hb hS
   go_wp2
   go_ret
   exact ⟨_,rfl,HF.out.1,HF.out.2⟩
  refine AllReadyH.cons rfl (fun K hK=>?_) AllReadyH.nil
  have bN:Below W1.heap.size W1 (W1.alloc (.cells #[.string ⟨#[41]⟩] 9)):=(Below.refl _ W1).alloc (Nat.le_refl _) _
  have hS':=row_keepX hS bN
  have o2':OS (W1.alloc (.cells #[.string ⟨#[41]⟩] 9)) 0 (.slice (some ⟨W1.heap.size,0,none⟩) 1 1) [⟨#[41]⟩]:=os_lit (l:=[.string ⟨#[41]⟩]) rfl (World.alloc_heap_new W1 _) (Nat.zero_le _) (by simp)
  have hb':=hb.trans (bN.mono hb.size)
  have o1':=o1.below bN
  go_simp
  refine hK.out _ _ hS' (fun _=>?_)
  clear hK K
  (try simp only [Act.put,zx1,zx2,zx3,zx4,zx5,zx6])
  clear hS hb bN o1
  generalize hsz2:W1.heap.size=z2 at *
  generalize W1.alloc (.cells #[.string ⟨#[41]⟩] 9)=W2 at *
  have hS:=hS';have hb:=hb';have o1:=o1';have o2:=o2'
  clear hS' hb' o1' o2'
  refine wpAnyH_ready (rs:=[2]) (by kernel_rfl) (by simp) ?_
  refine AllReadyH.cons rfl (fun K hK=>?_) AllReadyH.nil
  have bN:Below W2.heap.size W2 (W2.alloc (.cells #[.string t,.string ⟨#[40]⟩] 9)):=(Below.refl _ W2).alloc (Nat.le_refl _) _
  have hS':=row_keepX hS bN
  have o0':OS (W2.alloc (.cells #[.string t,.string ⟨#[40]⟩] 9)) 0 (.slice (some ⟨W2.heap.size,0,none⟩) 2 2) [t,⟨#[40]⟩]:=os_lit (l:=[.string t,.string ⟨#[40]⟩]) rfl (World.alloc_heap_new W2 _) (Nat.zero_le _) (by simp)
  have hb':=hb.trans (bN.mono hb.size)
  have o1':=o1.below bN
  have o2':=o2.below bN
  go_simp
  refine hK.out _ _ hS' (fun _=>?_)
  clear hK K
  (try simp only [Act.put,zx1,zx2,zx3,zx4,zx5,zx6])
  clear hS hb bN o1 o2
  generalize hsz0:W2.heap.size=z0 at *
  generalize W2.alloc (.cells #[.string t,.string ⟨#[40]⟩] 9)=W3 at *
  have hS:=hS';have hb:=hb';have o1:=o1';have o2:=o2';have o0:=o0'
  clear hS' hb' o1' o2' o0'
  have hcat:=cat3 W3 _ _ _ _ _ _ o0 o1 o2 (by simp;omega) (by first | (simp;done) | (simp;omega))
  rw [HL0.out] at hcat
  clear o0 o1 o2
  refine wpAnyH_ready (rs:=[7]) (by kernel_rfl) (by simp) ?_
  refine AllReadyH.cons rfl (fun K hK=>?_) AllReadyH.nil
  go_simp
  refine hK.out _ _ (row_keepX hS ((Below.refl _ W3).alloc (Nat.le_refl _) _)) (fun hS2=>?_)
  clear hK K
  (try simp only [Act.put,zx1,zx2,zx3,zx4,zx5,zx6])
  refine wpAnyH_ready (rs:=[8]) (by kernel_rfl) (by simp) ?_
  refine AllReadyH.cons rfl (fun K hK=>?_) AllReadyH.nil
  go_simp
  refine hcat.mono ?_
  rintro e W9 ⟨v9,rfl,b9,o9⟩
  refine hK.out _ _ (row_keepX hS b9) (fun hS=>?_)
  clear hK K hcat hS2
  (try simp only [Act.put,zx1,zx2,zx3,zx4,zx5,zx6])
  (refine wpAnyH_take (i:=9) (v:=?_) rfl (by kernel_rfl) (by kernel_rfl) (by kernel_rfl) (fun _ _ _ h=>h) (Or.inl ⟨by rfl,?_⟩) hS ?_);rotate_left;(focus (intro w' hSw;(have g2:=row_cellsX hSw 2);(have g3:=row_cellsX hSw 3);simp only [List.getElem?_toArray,List.getElem?_cons_succ,List.getElem?_cons_zero] at g2 g3;go_simp;(try with_reducible rfl)));(try simp only [Act.put,zx1,zx2,zx3,zx4,zx5,zx6])
  refine wpAnyH_done (by kernel_rfl) ?_ _
  have HF:=hid (And.intro (hb.trans (b9.mono hb.size)) (o9.base hb.size))
  clear o9 b9 hb hS
  go_wp2
  go_ret
  exact ⟨_,rfl,HF.out.1,HF.out.2⟩
 refine AllReadyH.cons rfl (fun K hK=>?_) AllReadyH.nil
 have bN:Below W0.heap.size W0 (W0.alloc (.cells #[.string ⟨#[41]⟩] 9)):=(Below.refl _ W0).alloc (Nat.le_refl _) _
 have hS':=row_keepX hS bN
 have o2':OS (W0.alloc (.cells #[.string ⟨#[41]⟩] 9)) 0 (.slice (some ⟨W0.heap.size,0,none⟩) 1 1) [⟨#[41]⟩]:=os_lit (l:=[.string ⟨#[41]⟩]) rfl (World.alloc_heap_new W0 _) (Nat.zero_le _) (by simp)
 have hb':=hb.trans (bN.mono hb.size)
 go_simp
 refine hK.out _ _ hS' (fun _=>?_)
 clear hK K
 (try simp only [Act.put,zx1,zx2,zx3,zx4,zx5,zx6])
 clear hS hb bN
 generalize hsz2:W0.heap.size=z2 at *
 generalize W0.alloc (.cells #[.string ⟨#[41]⟩] 9)=W1 at *
 have hS:=hS';have hb:=hb';have o2:=o2'
 clear hS' hb' o2'
 refine wpAnyH_ready (rs:=[2,5]) (by kernel_rfl) (by simp) ?_
 refine AllReadyH.cons rfl (fun K hK=>?_) ?_
 ·
  have bN:Below W1.heap.size W1 (W1.alloc (.cells #[.string t,.string ⟨#[40]⟩] 9)):=(Below.refl _ W1).alloc (Nat.le_refl _) _
  have hS':=row_keepX hS bN
  have o0':OS (W1.alloc (.cells #[.string t,.string ⟨#[40]⟩] 9)) 0 (.slice (some ⟨W1.heap.size,0,none⟩) 2 2) [t,⟨#[40]⟩]:=os_lit (l:=[.string t,.string ⟨#[40]⟩]) rfl (World.alloc_heap_new W1 _) (Nat.zero_le _) (by simp)
  have hb':=hb.trans (bN.mono hb.size)
  have o2':=o2.below bN
  go_simp
  refine hK.out _ _ hS' (fun _=>?_)
  clear hK K
  (try simp only [Act.put,zx1,zx2,zx3,zx4,zx5,zx6])
  clear hS hb bN o2
  generalize hsz0:W1.heap.size=z0 at *
  generalize W1.alloc (.cells #[.string t,.string ⟨#[40]⟩] 9)=W2 at *
  have hS:=hS';have hb:=hb';have o2:=o2';have o0:=o0'
  clear hS' hb' o2' o0'
  refine wpAnyH_ready (rs:=[5]) (by kernel_rfl) (by simp) ?_
  refine AllReadyH.cons rfl (fun K hK=>?_) AllReadyH.nil
  go_simp
  refine (cc _).mono ?_
  rintro e W3 ⟨v1,rfl,bN,o1'⟩
  have hS':=row_keepX hS bN
  have hb':=hb.trans (bN.mono hb.size)
  replace o1':=o1'.base (Nat.zero_le _)
  have o2':=o2.below bN
  have o0':=o0.below bN
  obtain ⟨oo,oc,rfl⟩:=slice_ofX o1'
  refine hK.out _ _ hS' (fun _=>?_)
  clear hK K
  (try simp only [Act.put,zx1,zx2,zx3,zx4,zx5,zx6])
  clear hS hb bN o2 o0
  have hS:=hS';have hb:=hb';have o2:=o2';have o0:=o0';have o1:=o1'
  clear hS' hb' o2' o0' o1'
  have hcat:=cat3 W3 _ _ _ _ _ _ o0 o1 o2 (by simp;omega) (by first | (simp;done) | (simp;omega))
  rw [HL0.out] at hcat
  clear o0 o1 o2
  refine wpAnyH_ready (rs:=[7]) (by kernel_rfl) (by simp) ?_
  refine AllReadyH.cons rfl (fun K hK=>?_) AllReadyH.nil
  go_simp
  refine hK.out _ _ (row_keepX hS ((Below.refl _ W3).alloc (Nat.le_refl _) _)) (fun hS2=>?_)
  clear hK K
  (try simp only [Act.put,zx1,zx2,zx3,zx4,zx5,zx6])
  refine wpAnyH_ready (rs:=[8]) (by kernel_rfl) (by simp) ?_
  refine AllReadyH.cons rfl (fun K hK=>?_) AllReadyH.nil
  go_simp
  refine hcat.mono ?_
  rintro e W9 ⟨v9,rfl,b9,o9⟩
  refine hK.out _ _ (row_keepX hS b9) (fun hS=>?_)
  clear hK K hcat hS2
  (try simp only [Act.put,zx1,zx2,zx3,zx4,zx5,zx6])
  (refine wpAnyH_take (i:=9) (v:=?_) rfl (by kernel_rfl) (by kernel_rfl) (by kernel_rfl) (fun _ _ _ h=>h) (Or.inl ⟨by rfl,?_⟩) hS ?_);rotate_left;(focus (intro w' hSw;(have g2:=row_cellsX hSw 2);(have g3:=row_cellsX hSw 3);simp only [List.getElem?_toArray,List.getElem?_cons_succ,List.getElem?_cons_zero] at g2 g3;go_simp;(try with_reducible rfl)));(try simp only [Act.put,zx1,zx2,zx3,zx4,zx5,zx6])
  refine wpAnyH_done (by kernel_rfl) ?_ _
  have HF:=hid (And.intro (hb.trans (b9.mono hb.size)) (o9.base hb.size))
  clear o9 b9 hb hS
  go_wp2
  go_ret
  exact ⟨_,rfl,HF.out.1,HF.out.2⟩
 refine AllReadyH.cons rfl (fun K hK=>?_) AllReadyH.nil
 go_simp
 refine (cc _).mono ?_
 rintro e W2 ⟨v1,rfl,bN,o1'⟩
 have hS':=row_keepX hS bN
 have hb':=hb.trans (bN.mono hb.size)
 replace o1':=o1'.base (Nat.zero_le _)
 have o2':=o2.below bN
 obtain ⟨oo,oc,rfl⟩:=slice_ofX o1'
 refine hK.out _ _ hS' (fun _=>?_)
 clear hK K
 (try simp only [Act.put,zx1,zx2,zx3,zx4,zx5,zx6])
 clear hS hb bN o2
 have hS:=hS';have hb:=hb';have o2:=o2';have o1:=o1'
 clear hS' hb' o2' o1'
 refine wpAnyH_ready (rs:=[2]) (by kernel_rfl) (by simp) ?_
 refine AllReadyH.cons rfl (fun K hK=>?_) AllReadyH.nil
 have bN:Below W2.heap.size W2 (W2.alloc (.cells #[.string t,.string ⟨#[40]⟩] 9)):=(Below.refl _ W2).alloc (Nat.le_refl _) _
 have hS':=row_keepX hS bN
 have o0':OS (W2.alloc (.cells #[.string t,.string ⟨#[40]⟩] 9)) 0 (.slice (some ⟨W2.heap.size,0,none⟩) 2 2) [t,⟨#[40]⟩]:=os_lit (l:=[.string t,.string ⟨#[40]⟩]) rfl (World.alloc_heap_new W2 _) (Nat.zero_le _) (by simp)
 have hb':=hb.trans (bN.mono hb.size)
 have o2':=o2.below bN
 have o1':=o1.below bN
 go_simp
 refine hK.out _ _ hS' (fun _=>?_)
 clear hK K
 (try simp only [Act.put,zx1,zx2,zx3,zx4,zx5,zx6])
 clear hS hb bN o2 o1
 generalize hsz0:W2.heap.size=z0 at *
 generalize W2.alloc (.cells #[.string t,.string ⟨#[40]⟩] 9)=W3 at *
 have hS:=hS';have hb:=hb';have o2:=o2';have o1:=o1';have o0:=o0'
 clear hS' hb' o2' o1' o0'
 have hcat:=cat3 W3 _ _ _ _ _ _ o0 o1 o2 (by simp;omega) (by first | (simp;done) | (simp;omega))
 rw [HL0.out] at hcat
 clear o0 o1 o2
 refine wpAnyH_ready (rs:=[7]) (by kernel_rfl) (by simp) ?_
 refine AllReadyH.cons rfl (fun K hK=>?_) AllReadyH.nil
 go_simp
 refine hK.out _ _ (row_keepX hS ((Below.refl _ W3).alloc (Nat.le_refl _) _)) (fun hS2=>?_)
 clear hK K
 (try simp only [Act.put,zx1,zx2,zx3,zx4,zx5,zx6])
 refine wpAnyH_ready (rs:=[8]) (by kernel_rfl) (by simp) ?_
 refine AllReadyH.cons rfl (fun K hK=>?_) AllReadyH.nil
 go_simp
 refine hcat.mono ?_
 rintro e W9 ⟨v9,rfl,b9,o9⟩
 refine hK.out _ _ (row_keepX hS b9) (fun hS=>?_)
 clear hK K hcat hS2
 (try simp only [Act.put,zx1,zx2,zx3,zx4,zx5,zx6])
 (refine wpAnyH_take (i:=9) (v:=?_) rfl (by kernel_rfl) (by kernel_rfl) (by kernel_rfl) (fun _ _ _ h=>h) (Or.inl ⟨by rfl,?_⟩) hS ?_);rotate_left;(focus (intro w' hSw;(have g2:=row_cellsX hSw 2);(have g3:=row_cellsX hSw 3);simp only [List.getElem?_toArray,List.getElem?_cons_succ,List.getElem?_cons_zero] at g2 g3;go_simp;(try with_reducible rfl)));(try simp only [Act.put,zx1,zx2,zx3,zx4,zx5,zx6])
 refine wpAnyH_done (by kernel_rfl) ?_ _
 have HF:=hid (And.intro (hb.trans (b9.mono hb.size)) (o9.base hb.size))
 clear o9 b9 hb hS
 go_wp2
 go_ret
 exact ⟨_,rfl,HF.out.1,HF.out.2⟩
set_option maxRecDepth 100000 in
set_option maxHeartbeats 2000000 in
theorem st_11 (hc:c≤1000000) (hc1:3≤c):TK 62 #[nodV 11 a c t i b] (repT (c - 3) [tK] ++ [⟨#[102,111,114]⟩,t,⟨#[105,110]⟩,tK,⟨#[46,46]⟩,tK,tK]) w:=by
 have cc:=fun w=>(show Calls Tryz.prog 59 #[.int .i64 ((c - 3:Nat):Int)] w fun e w'=>∃ v,e=.returned v∧Below w.heap.size w w'∧OS w' w.heap.size v (repT (c - 3) [tK]) from kids_c (c - 3) (by omega) w)
 have j1:IntKind.i64.wrap ((c:Int) - 3)=((c - 3:Nat):Int):=by rw [IntKind.wrap_i64];omega
 unfold TK nodV at *
 have hn:=World.alloc_heap_new w (.cells #[.int .i64 11,.int .i64 a,.int .i64 (c:Nat),.string t,.int .i64 i,.int .u64 b] 44)
 have hb:Below w.heap.size w (w.alloc (.cells #[.int .i64 11,.int .i64 a,.int .i64 (c:Nat),.string t,.int .i64 i,.int .u64 b] 44)):=(Below.refl _ w).alloc (Nat.le_refl _) _
 revert cc
 generalize hcl:repT (c - 3) [tK]=CL
 have hCL:CL.length≤2000000:=by rw [← hcl];(rw [repT_len];simp;omega)
 clear hcl
 intro cc
 obtain ⟨L0,hL0⟩:∃ L0,CL ++ [⟨#[102,111,114]⟩,t,⟨#[105,110]⟩,tK,⟨#[46,46]⟩,tK,tK]=L0:=⟨_,rfl⟩
 rw [hL0]
 have HL0:=hid hL0
 clear hL0
 go_enter Tryz.func62,Tryz.ntmps62
 go_upto_region 13 with fail
 generalize w.alloc _=W at *
 refine wp_region_held_drew (S:=fun w'=>w'.heap[w.heap.size]? = some (.cells #[.int .i64 11,.int .i64 a,.int .i64 (c:Nat),.string t,.int .i64 i,.int .u64 b] 44 (0,0))) (by kernel_rfl) hn ?_
 intro hS
 replace hb:=hb.drew
 clear hn
 (refine wpAnyH_take (i:=0) (v:=?_) rfl (by kernel_rfl) (by kernel_rfl) (by kernel_rfl) (fun _ _ _ h=>h) (Or.inl ⟨by rfl,?_⟩) hS ?_);rotate_left;(focus (intro w' hSw;(have g2:=row_cellsX hSw 2);(have g3:=row_cellsX hSw 3);simp only [List.getElem?_toArray,List.getElem?_cons_succ,List.getElem?_cons_zero] at g2 g3;go_simp;(try with_reducible rfl)));(try simp only [Act.put,zx1,zx2,zx3,zx4,zx5,zx6])
 (refine wpAnyH_take (i:=1) (v:=?_) rfl (by kernel_rfl) (by kernel_rfl) (by kernel_rfl) (fun _ _ _ h=>h) (Or.inl ⟨by rfl,?_⟩) hS ?_);rotate_left;(focus (intro w' hSw;(have g2:=row_cellsX hSw 2);(have g3:=row_cellsX hSw 3);simp only [List.getElem?_toArray,List.getElem?_cons_succ,List.getElem?_cons_zero] at g2 g3;go_simp;(try with_reducible rfl)));(try simp only [Act.put,zx1,zx2,zx3,zx4,zx5,zx6])
 (refine wpAnyH_take (i:=2) (v:=?_) rfl (by kernel_rfl) (by kernel_rfl) (by kernel_rfl) (fun _ _ _ h=>h) (Or.inl ⟨by rfl,?_⟩) hS ?_);rotate_left;(focus (intro w' hSw;(have g2:=row_cellsX hSw 2);(have g3:=row_cellsX hSw 3);simp only [List.getElem?_toArray,List.getElem?_cons_succ,List.getElem?_cons_zero] at g2 g3;go_simp;(try with_reducible rfl)));(try simp only [Act.put,zx1,zx2,zx3,zx4,zx5,zx6])
 (refine wpAnyH_take (i:=4) (v:=?_) rfl (by kernel_rfl) (by kernel_rfl) (by kernel_rfl) (fun _ _ _ h=>h) (Or.inl ⟨by rfl,?_⟩) hS ?_);rotate_left;(focus (intro w' hSw;(have g2:=row_cellsX hSw 2);(have g3:=row_cellsX hSw 3);simp only [List.getElem?_toArray,List.getElem?_cons_succ,List.getElem?_cons_zero] at g2 g3;go_simp;(try with_reducible rfl)));(try simp only [Act.put,zx1,zx2,zx3,zx4,zx5,zx6])
 (refine wpAnyH_take (i:=5) (v:=?_) rfl (by kernel_rfl) (by kernel_rfl) (by kernel_rfl) (fun _ _ _ h=>h) (Or.inl ⟨by rfl,?_⟩) hS ?_);rotate_left;(focus (intro w' hSw;(have g2:=row_cellsX hSw 2);(have g3:=row_cellsX hSw 3);simp only [List.getElem?_toArray,List.getElem?_cons_succ,List.getElem?_cons_zero] at g2 g3;go_simp;(try with_reducible rfl)));(try simp only [Act.put,zx1,zx2,zx3,zx4,zx5,zx6])
 generalize W.drew=W0 at *
 refine wpAnyH_ready (rs:=[3,6]) (by kernel_rfl) (by simp) ?_
 refine AllReadyH.cons rfl (fun K hK=>?_) ?_
 ·
  go_simp
  refine (cc _).mono ?_
  rintro e W1 ⟨v0,rfl,bN,o0'⟩
  have hS':=row_keepX hS bN
  have hb':=hb.trans (bN.mono hb.size)
  replace o0':=o0'.base (Nat.zero_le _)
  obtain ⟨oo,oc,rfl⟩:=slice_ofX o0'
  refine hK.out _ _ hS' (fun _=>?_)
  clear hK K
  (try simp only [Act.put,zx1,zx2,zx3,zx4,zx5,zx6])
  clear hS hb bN
  have hS:=hS';have hb:=hb';have o0:=o0'
  clear hS' hb' o0'
  refine wpAnyH_ready (rs:=[6]) (by kernel_rfl) (by simp) ?_
  refine AllReadyH.cons rfl (fun K hK=>?_) AllReadyH.nil
  have bN:Below W1.heap.size W1 (W1.alloc (.cells #[.string ⟨#[102,111,114]⟩,.string t,.string ⟨#[105,110]⟩,.string ⟨#[]⟩,.string ⟨#[46,46]⟩,.string ⟨#[]⟩,.string ⟨#[]⟩] 9)):=(Below.refl _ W1).alloc (Nat.le_refl _) _
  have hS':=row_keepX hS bN
  have o1':OS (W1.alloc (.cells #[.string ⟨#[102,111,114]⟩,.string t,.string ⟨#[105,110]⟩,.string ⟨#[]⟩,.string ⟨#[46,46]⟩,.string ⟨#[]⟩,.string ⟨#[]⟩] 9)) 0 (.slice (some ⟨W1.heap.size,0,none⟩) 7 7) [⟨#[102,111,114]⟩,t,⟨#[105,110]⟩,tK,⟨#[46,46]⟩,tK,tK]:=os_lit (l:=[.string ⟨#[102,111,114]⟩,.string t,.string ⟨#[105,110]⟩,.string ⟨#[]⟩,.string ⟨#[46,46]⟩,.string ⟨#[]⟩,.string ⟨#[]⟩]) rfl (World.alloc_heap_new W1 _) (Nat.zero_le _) (by simp)
  have hb':=hb.trans (bN.mono hb.size)
  have o0':=o0.below bN
  go_simp
  refine hK.out _ _ hS' (fun _=>?_)
  clear hK K
  (try simp only [Act.put,zx1,zx2,zx3,zx4,zx5,zx6])
  clear hS hb bN o0
  generalize hsz1:W1.heap.size=z1 at *
  generalize W1.alloc (.cells #[.string ⟨#[102,111,114]⟩,.string t,.string ⟨#[105,110]⟩,.string ⟨#[]⟩,.string ⟨#[46,46]⟩,.string ⟨#[]⟩,.string ⟨#[]⟩] 9)=W2 at *
  have hS:=hS';have hb:=hb';have o0:=o0';have o1:=o1'
  clear hS' hb' o0' o1'
  have hcat:=cat2 W2 _ _ _ _ o0 o1 (by simp;omega) (by first | (simp;done) | (simp;omega))
  rw [HL0.out] at hcat
  clear o0 o1
  refine wpAnyH_ready (rs:=[7]) (by kernel_rfl) (by simp) ?_
  refine AllReadyH.cons rfl (fun K hK=>?_) AllReadyH.nil
  go_simp
  refine hK.out _ _ (row_keepX hS ((Below.refl _ W2).alloc (Nat.le_refl _) _)) (fun hS2=>?_)
  clear hK K
  (try simp only [Act.put,zx1,zx2,zx3,zx4,zx5,zx6])
  refine wpAnyH_ready (rs:=[8]) (by kernel_rfl) (by simp) ?_
  refine AllReadyH.cons rfl (fun K hK=>?_) AllReadyH.nil
  go_simp
  refine hcat.mono ?_
  rintro e W9 ⟨v9,rfl,b9,o9⟩
  refine hK.out _ _ (row_keepX hS b9) (fun hS=>?_)
  clear hK K hcat hS2
  (try simp only [Act.put,zx1,zx2,zx3,zx4,zx5,zx6])
  (refine wpAnyH_take (i:=9) (v:=?_) rfl (by kernel_rfl) (by kernel_rfl) (by kernel_rfl) (fun _ _ _ h=>h) (Or.inl ⟨by rfl,?_⟩) hS ?_);rotate_left;(focus (intro w' hSw;(have g2:=row_cellsX hSw 2);(have g3:=row_cellsX hSw 3);simp only [List.getElem?_toArray,List.getElem?_cons_succ,List.getElem?_cons_zero] at g2 g3;go_simp;(try with_reducible rfl)));(try simp only [Act.put,zx1,zx2,zx3,zx4,zx5,zx6])
  refine wpAnyH_done (by kernel_rfl) ?_ _
  have HF:=hid (And.intro (hb.trans (b9.mono hb.size)) (o9.base hb.size))
  clear o9 b9 hb hS
  go_wp2
  go_ret
  exact ⟨_,rfl,HF.out.1,HF.out.2⟩
 refine AllReadyH.cons rfl (fun K hK=>?_) AllReadyH.nil
 have bN:Below W0.heap.size W0 (W0.alloc (.cells #[.string ⟨#[102,111,114]⟩,.string t,.string ⟨#[105,110]⟩,.string ⟨#[]⟩,.string ⟨#[46,46]⟩,.string ⟨#[]⟩,.string ⟨#[]⟩] 9)):=(Below.refl _ W0).alloc (Nat.le_refl _) _
 have hS':=row_keepX hS bN
 have o1':OS (W0.alloc (.cells #[.string ⟨#[102,111,114]⟩,.string t,.string ⟨#[105,110]⟩,.string ⟨#[]⟩,.string ⟨#[46,46]⟩,.string ⟨#[]⟩,.string ⟨#[]⟩] 9)) 0 (.slice (some ⟨W0.heap.size,0,none⟩) 7 7) [⟨#[102,111,114]⟩,t,⟨#[105,110]⟩,tK,⟨#[46,46]⟩,tK,tK]:=os_lit (l:=[.string ⟨#[102,111,114]⟩,.string t,.string ⟨#[105,110]⟩,.string ⟨#[]⟩,.string ⟨#[46,46]⟩,.string ⟨#[]⟩,.string ⟨#[]⟩]) rfl (World.alloc_heap_new W0 _) (Nat.zero_le _) (by simp)
 have hb':=hb.trans (bN.mono hb.size)
 go_simp
 refine hK.out _ _ hS' (fun _=>?_)
 clear hK K
 (try simp only [Act.put,zx1,zx2,zx3,zx4,zx5,zx6])
 clear hS hb bN
 generalize hsz1:W0.heap.size=z1 at *
 generalize W0.alloc (.cells #[.string ⟨#[102,111,114]⟩,.string t,.string ⟨#[105,110]⟩,.string ⟨#[]⟩,.string ⟨#[46,46]⟩,.string ⟨#[]⟩,.string ⟨#[]⟩] 9)=W1 at *
 have hS:=hS';have hb:=hb';have o1:=o1'
 clear hS' hb' o1'
 refine wpAnyH_ready (rs:=[3]) (by kernel_rfl) (by simp) ?_
 refine AllReadyH.cons rfl (fun K hK=>?_) AllReadyH.nil
 go_simp
 refine (cc _).mono ?_
 rintro e W2 ⟨v0,rfl,bN,o0'⟩
 have hS':=row_keepX hS bN
 have hb':=hb.trans (bN.mono hb.size)
 replace o0':=o0'.base (Nat.zero_le _)
 have o1':=o1.below bN
 obtain ⟨oo,oc,rfl⟩:=slice_ofX o0'
 refine hK.out _ _ hS' (fun _=>?_)
 clear hK K
 (try simp only [Act.put,zx1,zx2,zx3,zx4,zx5,zx6])
 clear hS hb bN o1
 have hS:=hS';have hb:=hb';have o1:=o1';have o0:=o0'
 clear hS' hb' o1' o0'
 have hcat:=cat2 W2 _ _ _ _ o0 o1 (by simp;omega) (by first | (simp;done) | (simp;omega))
 rw [HL0.out] at hcat
 clear o0 o1
 refine wpAnyH_ready (rs:=[7]) (by kernel_rfl) (by simp) ?_
 refine AllReadyH.cons rfl (fun K hK=>?_) AllReadyH.nil
 go_simp
 refine hK.out _ _ (row_keepX hS ((Below.refl _ W2).alloc (Nat.le_refl _) _)) (fun hS2=>?_)
 clear hK K
 (try simp only [Act.put,zx1,zx2,zx3,zx4,zx5,zx6])
 refine wpAnyH_ready (rs:=[8]) (by kernel_rfl) (by simp) ?_
 refine AllReadyH.cons rfl (fun K hK=>?_) AllReadyH.nil
 go_simp
 refine hcat.mono ?_
 rintro e W9 ⟨v9,rfl,b9,o9⟩
 refine hK.out _ _ (row_keepX hS b9) (fun hS=>?_)
 clear hK K hcat hS2
 (try simp only [Act.put,zx1,zx2,zx3,zx4,zx5,zx6])
 (refine wpAnyH_take (i:=9) (v:=?_) rfl (by kernel_rfl) (by kernel_rfl) (by kernel_rfl) (fun _ _ _ h=>h) (Or.inl ⟨by rfl,?_⟩) hS ?_);rotate_left;(focus (intro w' hSw;(have g2:=row_cellsX hSw 2);(have g3:=row_cellsX hSw 3);simp only [List.getElem?_toArray,List.getElem?_cons_succ,List.getElem?_cons_zero] at g2 g3;go_simp;(try with_reducible rfl)));(try simp only [Act.put,zx1,zx2,zx3,zx4,zx5,zx6])
 refine wpAnyH_done (by kernel_rfl) ?_ _
 have HF:=hid (And.intro (hb.trans (b9.mono hb.size)) (o9.base hb.size))
 clear o9 b9 hb hS
 go_wp2
 go_ret
 exact ⟨_,rfl,HF.out.1,HF.out.2⟩
end
end Go.Proofs.YtkjaoandifednaaGreatDoor.W.Tr
