import Derived.Test.YtjplieobnknnpaaGreatDoorJG
import Derived.Test.YtjplieobnknnpaaGreatDoorKP
open Array renaming getElem?_eq_some_iff → z2z
open Nat renaming le_refl → z1z
open Go.RowKit.Below renaming refl → z0z
open Go.Proofs.Tryz
open List renaming getElem_toArray → zx1, getElem_cons_zero → zx2, getElem_cons_succ → zx3, setIfInBounds_toArray → zx4, set_cons_zero → zx5, set_cons_succ → zx6
set_option maxRecDepth 1000000
set_option maxHeartbeats 8000000
namespace Go.Proofs.YtjplieobnknnpaaGreatDoor.W.Tr
open Go.ChangeShapes Go.WideShapes Go.RowKit Go.Shelf Go.ChangeMaps Ck
set_option linter.unusedVariables false
set_option linter.unusedSimpArgs false
section
variable {B:Nat} {w w':World} {pb:Nat} {L:List (Nd × Nat)} {E:List Nat} {mr:Int} {pm:List (ByteArray × Nat)} {lv ev:Value} {mp mt mc:Nat} {ov sv pv:Value} {bs:List Nat} {c:Sc}
theorem Oi(h:Pz B w pb L E mr pm lv ev mp mt mc ov sv pv bs c)(a:Nat){n:Nd}{kids:Nat}(hn:L[a]? = some (n,kids))(hf:c.opn.length<99999/\c.scs.length<199990/\c.lps.length<99990){c1:Sc}(hd:((n.kind≠2/\n.kind≠3/\n.kind≠4/\n.kind≠5/\n.kind≠10/\n.kind≠11/\n.kind≠12/\n.kind≠26/\n.kind≠27/\n.kind≠28)/\c1={ c with opn:=(a,c.scs.length,c.lps.length)::c.opn })\/(n.kind=2/\c1={ c with taken:=EM c.taken n.text a,opn:=(a,c.scs.length,c.lps.length)::c.opn })\/(n.kind=10/\c1={ c with lps:=n.text::c.lps,opn:=(a,c.scs.length,c.lps.length)::c.opn })\/(n.kind=11/\c1={ c with lps:=⟨#[]⟩::c.lps,opn:=(a,c.scs.length,c.lps.length)::c.opn })\/(∃s0 sr,n.kind=4/\c.scs=s0::sr/\c1={ c with scs:=EM s0 n.text a::sr,opn:=(a,c.scs.length,c.lps.length)::c.opn })) :
  Calls prog 40 #[.pointer (some ⟨pb,0,none⟩),.int .i64 (a:Nat)] w λe w'=>e=.returned (.tuple #[])/\Below B w w'/\A9 w w'/\∃ov' sv' pv' bs',Pz B w' pb L E mr pm lv ev mp mt mc ov' sv' pv' bs' c1:=by
 have H:=hid h
 have HN:=hid hn
 have HF:=hid hf
 have HD:=hid hd
 have hlt:=h.lt
 have hsz:=h.size
 obtain⟨gl,lc,hlv,hgl,hLl,_⟩:=id h.pr.row
 have hrow:=h.pr.row
 rw[hlv] at hrow
 obtain⟨c0,c1,c2,c3,c4,c5⟩:=hrow.at hn
 simp only at c0 c1 c2 c3 c4 c5
 have p0:=AU h.pr.blk 0
 change _=some lv at p0
 rw[hlv] at p0
 have hal:=(List.getElem?_eq_some_iff.1 hn).1
 have m1:(0:Int)<=(a:Nat):=by omega
 have m2:((a:Nat):Int)<L.length:=by omega
 have bz:Below w.heap.size w (w.alloc (.cells #[.int .i64 0,.int .i64 0,.int .i64 0,.string ⟨#[]⟩,.int .i64 0,.int .u64 0] 48)):=(z0z _ w).alloc (z1z _) _
 have d0:=(bz.cell (p:=⟨gl,a*6,none⟩) hgl).trans c0
 have d1:=(bz.cell (p:=⟨gl,a*6+1,none⟩) hgl).trans c1
 have d2:=(bz.cell (p:=⟨gl,a*6+2,none⟩) hgl).trans c2
 have d3:=(bz.cell (p:=⟨gl,a*6+3,none⟩) hgl).trans c3
 have d4:=(bz.cell (p:=⟨gl,a*6+4,none⟩) hgl).trans c4
 have d5:=(bz.cell (p:=⟨gl,a*6+5,none⟩) hgl).trans c5
 have q0:=(bz.cell (p:=⟨pb,0,none⟩) h.lt).trans p0
 clear h hlv hgl hLl hrow hn hal bz hf hd
 generalize L.length=ln at *
 go_enter func40,ntmps40
 go_upto_region 1 with fail
 have b5:Below w.heap.size w (w.alloc (Ab n kids)):=(z0z _ w).alloc (z1z _) _
 have nb:=World.cell?_alloc_new w #[.int .i64 n.kind,.int .i64 n.a,.int .i64 (kids:Nat),.string n.text,.int .i64 n.int,.int .u64 n.bits] 48
 have hnb:(w.alloc (Ab n kids)).heap[w.heap.size]? = some (.cells #[.int .i64 n.kind,.int .i64 n.a,.int .i64 (kids:Nat),.string n.text,.int .i64 n.int,.int .u64 n.bits] 48 (0,0)):=World.alloc_heap_new w (.cells #[.int .i64 n.kind,.int .i64 n.a,.int .i64 (kids:Nat),.string n.text,.int .i64 n.int,.int .u64 n.bits] 48)
 have h5:=H.out.below b5
 have hoo:ov.ownBlock≠some w.heap.size:=λe=>Nat.lt_irrefl _ (VO H.out.pr.opn e)
 have hpn:w.heap.size≠pb:=by omega
 have B5:=hid (b5.mono hsz)
 have K5:=hid ((A9.refl w).more b5)
 clear nb b5 d0 d1 d2 d3 d4 d5 q0 c0 c1 c2 c3 c4 c5 p0 m1 m2 H
 simp only[Ab] at *
 generalize World.alloc _ _=W5 at *
 generalize w.heap.size=nbk at *
 obtain⟨hf1,hf2,hf3⟩:=HF.out
 have hnl:nbk<W5.heap.size:=(z2z.1 hnb).1
 have h5d:=h5.drew
 obtain⟨so,sc,rfl⟩:=Et h5.pr.scs
 obtain⟨po,pc,hpv⟩:=Et h5.pr.lps
 simp only[List.length_reverse] at hpv
 subst hpv
 have p5:=AU h5.pr.blk 5
 change _=some ov at p5
 have p6:=AU h5.pr.blk 6
 change _=some (Value.slice so c.scs.length sc) at p6
 have p7:=AU h5.pr.blk 7
 change _=some (Value.slice po c.lps.length pc) at p7
 obtain⟨ov1,w7,hr1,hown1,hgr1⟩:=fK W5.drew 88 ov c.opn.length _ h5d.pr.opn h5d.size a c.scs.length c.lps.length (by omega)
 obtain⟨oo1,oc1,rfl⟩:=Et hown1
 have hU7:It.AL (λk=>ov.ownBlock=some k) W5.drew w7:=((It.AL.refl _ _).alloc _).grown hgr1 (λk e=>.inl e)
 have blk7:=(hU7.block pb h5d.lt h5d.ne5).trans h5d.pr.blk
 have nb7:=(hU7.block nbk hnl hoo).trans hnb
 have z7:=thaw blk7 5
 have q5:=AU blk7 5
 change _=some ov at q5
 have h9:=h5d.pushO (o:=(a,c.scs.length,c.lps.length)) hU7 hown1 (by omega)
 have nb9:(w7.setCell ⟨pb,5,none⟩ (.slice oo1 (c.opn.length+1) oc1)).heap[nbk]? = some (.cells #[.int .i64 n.kind,.int .i64 n.a,.int .i64 (kids:Nat),.string n.text,.int .i64 n.int,.int .u64 n.bits] 48 (0,0)):=(Below.heap_setCell _ _ _ _ hpn).trans nb7
 have B9:Below B w (w7.setCell ⟨pb,5,none⟩ (.slice oo1 (c.opn.length+1) oc1)):=(B5.out.drew.trans (hU7.below h5d.size (λk e=>(Ba h5d.pr.opn e).1))).setCell (p:=⟨pb,5,none⟩) h5.low _
 have HK9:=hid (show A9 w (w7.setCell ⟨pb,5,none⟩ (.slice oo1 (c.opn.length+1) oc1)) from(K5.out.drew.upd hU7 (λk e=>by obtain⟨_,cur,h3⟩:=Ba h5d.pr.opn e;exact⟨_,h3,by show 134+2≠_;decide⟩)).set blk7 (by show 91+2≠_;decide) 5 _)
 have S5:W5.drew.cell? ⟨pb,5,none⟩=some ov/\W5.drew.cell? ⟨pb,6,none⟩=some (Value.slice so c.scs.length sc)/\W5.drew.cell? ⟨pb,7,none⟩=some (Value.slice po c.lps.length pc):=⟨p5,p6,p7⟩
 have ba:=(z0z _ W5.drew).alloc (z1z W5.drew.heap.size) (.cells #[.int .i64 (a:Nat),.int .i64 (c.scs.length:Nat),.int .i64 (c.lps.length:Nat)] 134)
 have S6:(W5.drew.alloc (.cells #[.int .i64 (a:Nat),.int .i64 (c.scs.length:Nat),.int .i64 (c.lps.length:Nat)] 134)).cell? ⟨pb,5,none⟩=some ov/\(W5.drew.alloc (.cells #[.int .i64 (a:Nat),.int .i64 (c.scs.length:Nat),.int .i64 (c.lps.length:Nat)] 134)).cell? ⟨pb,6,none⟩=some (Value.slice so c.scs.length sc)/\(W5.drew.alloc (.cells #[.int .i64 (a:Nat),.int .i64 (c.scs.length:Nat),.int .i64 (c.lps.length:Nat)] 134)).cell? ⟨pb,7,none⟩=some (Value.slice po c.lps.length pc):=⟨(ba.cell (p:=⟨pb,5,none⟩) h5d.lt).trans S5.1,(ba.cell (p:=⟨pb,6,none⟩) h5d.lt).trans S5.2.1,(ba.cell (p:=⟨pb,7,none⟩) h5d.lt).trans S5.2.2⟩
 have S7:w7.cell? ⟨pb,5,none⟩=some ov/\w7.cell? ⟨pb,6,none⟩=some (Value.slice so c.scs.length sc)/\w7.cell? ⟨pb,7,none⟩=some (Value.slice po c.lps.length pc):=⟨AU blk7 5,AU blk7 6,AU blk7 7⟩
 have H9:=hid h9
 have HB9:=hid B9
 have HZ7:=hid z7
 have HR1:=hid hr1
 have HS6:=hid S6
 have HS7:=hid S7
 have HNB:=hid nb9
 clear h5 h5d hr1 hown1 hgr1 hU7 blk7 nb7 z7 h9 B9 ba S6 S7 nb9 hoo B5 p5 p6 p7 q5 hnb hnl K5
 refine It.Eu (z:=21) (S:=λw'=>w'.cell? ⟨pb,5,none⟩=some ov/\w'.cell? ⟨pb,6,none⟩=some (Value.slice so c.scs.length sc)/\w'.cell? ⟨pb,7,none⟩=some (Value.slice po c.lps.length pc)) (by kernel_rfl) ?_
 generalize W5.drew=Wd at *
 iterate 17 ((refine It.nL 0 ?_ rfl (by kernel_rfl) (λ_ _ _ h=>h) (Or.inl ⟨by rfl,?_⟩) S5 ?_);rotate_left;(focus (intro w' hSw;(obtain⟨s0,s1,s2⟩:=hSw);go_simp;(try with_reducible rfl)));(try simp only[Act.put,zx1,zx2,zx3,zx4,zx5,zx6]))
 refine It.Aa (i:=17) (by kernel_rfl) rfl rfl (λK hK=>?_)
 refine It.AZ (λc h=>by cases h) ?_
 have HK1:=hid hK
 clear hK
 go_simp
 refine HK1.out _ _ (.inr HS6.out) ?_
 clear HK1
 (try simp only[Act.put,zx1,zx2,zx3,zx4,zx5,zx6])
 refine It.Aa (i:=18) (by kernel_rfl) rfl rfl (λK hK=>?_)
 refine It.AZ (λc h=>by cases h) ?_
 have HK1:=hid hK
 clear hK
 refine Lib.wp_append_run _ (.tmp 17) (.tmp 30) 88 88 rfl _ _ rfl rfl _ _ HR1.out ?_
 refine HK1.out _ _ (.inr HS7.out) ?_
 clear HK1
 (try simp only[Act.put,zx1,zx2,zx3,zx4,zx5,zx6])
 refine It.Aa (i:=19) (by kernel_rfl) rfl rfl (λK hK=>?_)
 refine It.AZ (λc h=>by cases h) ?_
 have HK1:=hid hK
 clear hK
 go_simp
 refine HK1.out _ _ (.inr HS7.out) ?_
 clear HK1
 (try simp only[Act.put,zx1,zx2,zx3,zx4,zx5,zx6])
 refine It.Aa (i:=20) (by kernel_rfl) rfl rfl (λK hK=>?_)
 refine It.AZ (λc h=>by cases h) ?_
 have HK1:=hid hK
 clear hK
 go_simp
 refine HK1.out _ _ (.inr HS7.out) ?_
 clear HK1
 (try simp only[Act.put,zx1,zx2,zx3,zx4,zx5,zx6])
 refine It.Aa (i:=21) (by kernel_rfl) rfl rfl (λK hK=>?_)
 refine It.AZ (λc h=>by cases h) ?_
 have HK1:=hid hK
 clear hK
 have z7:=HZ7.out
 have s7:=HS7.out.1
 go_simp
 refine HK1.out _ _ (.inl rfl) ?_
 clear HK1
 (try simp only[Act.put,zx1,zx2,zx3,zx4,zx5,zx6])
 refine It.EU (by kernel_rfl) ?_ _
 have h9:=H9.out
 have nb9:=HNB.out
 have hB9:=HB9.out
 have hK9:=HK9.out
 clear HK9 H9 HNB HB9 HR1 HS6 HS7 HZ7 S5
 generalize w7.setCell ⟨pb,5,none⟩ (.slice oo1 (c.opn.length+1) oc1)=W9 at *
 have x0:W9.cell? ⟨nbk,0,none⟩=some (.int .i64 n.kind):=cell_of_row _ _ 0 _ _ _ nb9
 have x3:W9.cell? ⟨nbk,3,none⟩=some (.string n.text):=cell_of_row _ _ 3 _ _ _ nb9
 rcases HD.out with⟨hk,rfl⟩|⟨hk,rfl⟩|⟨hk,rfl⟩|⟨hk,rfl⟩|⟨s0,sr,hk,hcs,rfl⟩
 ·skip
  have HK:=hid hk
  clear hk HD
  obtain⟨k2,k3,k4,k5,k10,k11,k12,k26,k27,k28⟩:=HK.out
  have e2:(n.kind==2)=false:=by simpa using k2
  have e3:(n.kind==3)=false:=by simpa using k3
  have e4:(n.kind==4)=false:=by simpa using k4
  have e5:(n.kind==5)=false:=by simpa using k5
  have e10:(n.kind==10)=false:=by simpa using k10
  have e11:(n.kind==11)=false:=by simpa using k11
  have e12:(n.kind==12)=false:=by simpa using k12
  have e26:(n.kind==26)=false:=by simpa using k26
  have e27:(n.kind==27)=false:=by simpa using k27
  have e28:(n.kind==28)=false:=by simpa using k28
  have HH:=hid h9
  have HB:=hid hB9
  have KK:=hid hK9
  clear hK9 h9 hB9 nb9 k2 k3 k4 k5 k10 k11 k12 k26 k27 k28 HK HN HF
  go_wp2
  refine bodyPost_end (results_none rfl _ _ _) rfl ?_
  exact⟨rfl,HB.out,KK.out,_,_,_,_,HH.out⟩
 ·skip
  have HK:=hid hk
  clear hk HD
  have e2:(n.kind==2)=true:=by rw[HK.out];rfl
  have h9d:=h9.drew
  obtain⟨W10,hput,hm10,hg10⟩:=Lu (P:=prog) J5 II h9d.pr.tak n.text a
  have hU10:It.AL (λk=>k=mt) W9.drew W10:=(It.AL.refl _ _).grown hg10 (λk e=>.inl (by cases e;rfl))
  have HH:=hid (h9d.putT hU10 hm10)
  have HB:=hid (hB9.drew.trans (hU10.below h9d.size (λk e=>by subst e;exact h9d.lows _ (by simp))))
  have KK:=hid (hK9.drew.upd hU10 (λk e=>by obtain⟨es,kk9,q9⟩:=h9d.mobj mt (by simp);exact⟨.map es kk9,by rw[e];exact q9,by show 1≠_;decide⟩))
  clear hK9
  have p4:=AU h9.pr.blk 4
  change _=some (Value.map (some mt)) at p4
  have HP:=hid hput
  clear h9 h9d hB9 nb9 HK HN HF hm10 hg10 hU10 hput
  go_upto_region 4 with fail
  refine It.Eu (z:=7) (S:=λw'=>w'.cell? ⟨pb,4,none⟩=some (.map (some mt))/\w'.cell? ⟨nbk,3,none⟩=some (.string n.text)) (by kernel_rfl) ?_
  have S5:W9.drew.cell? ⟨pb,4,none⟩=some (.map (some mt))/\W9.drew.cell? ⟨nbk,3,none⟩=some (.string n.text):=⟨p4,x3⟩
  clear p4 x0 x3 e2
  iterate 7 ((refine It.nL 0 ?_ rfl (by kernel_rfl) (λ_ _ _ h=>h) (Or.inl ⟨by rfl,?_⟩) S5 ?_);rotate_left;(focus (intro w' hSw;(obtain⟨s0,s1⟩:=hSw);go_simp;(try with_reducible rfl)));(try simp only[Act.put,zx1,zx2,zx3,zx4,zx5,zx6]))
  refine It.Aa (i:=7) (by kernel_rfl) rfl rfl (λK hK=>?_)
  refine It.AZ (λc h=>by cases h) ?_
  have HK1:=hid hK
  clear hK
  have hput:=HP.out
  go_simp
  refine HK1.out _ _ (.inl rfl) ?_
  clear HK1
  (try simp only[Act.put,zx1,zx2,zx3,zx4,zx5,zx6])
  refine It.EU (by kernel_rfl) ?_ _
  clear S5
  go_wp2
  refine bodyPost_end (results_none rfl _ _ _) rfl ?_
  exact⟨rfl,HB.out,KK.out,_,_,_,_,HH.out⟩
 ·skip
  have HK:=hid hk
  clear hk HD
  have e2:(n.kind==2)=false:=by rw[HK.out];rfl
  have e3:(n.kind==3)=false:=by rw[HK.out];rfl
  have e4:(n.kind==4)=false:=by rw[HK.out];rfl
  have e5:(n.kind==5)=false:=by rw[HK.out];rfl
  have e10:(n.kind==10)=true:=by rw[HK.out];rfl
  have h9d:=h9.drew
  have hlo:W9.drew.ownsRow B 9 1 (.slice po c.lps.length pc) c.lps.length (c.lps.reverse.map Value.string):=by
   have:=h9d.pr.lps
   unfold GZ at this
   simpa using this
  obtain⟨pv1,w11,hr2,hown2,hgr2⟩:=Vm W9.drew 89 _ _ _ hlo h9d.size n.text (by omega)
  obtain⟨oo2,oc2,rfl⟩:=Et hown2
  have hU11:It.AL (λk=>(Value.slice po c.lps.length pc).ownBlock=some k) W9.drew w11:=((It.AL.refl _ _).alloc _).grown hgr2 (λk e=>.inl e)
  have blk11:=(hU11.block pb h9d.lt h9d.ne7).trans h9d.pr.blk
  have z11:=thaw blk11 7
  have HH:=hid (h9d.pushL (x:=n.text) hU11 hown2 (by show c.lps.length<100000;omega))
  have HB:=hid (show Below B w (w11.setCell ⟨pb,7,none⟩ (.slice oo2 (c.lps.length+1) oc2)) from(hB9.drew.trans (hU11.below h9d.size (λk e=>(Ba hlo e).1))).setCell (p:=⟨pb,7,none⟩) h9.low _)
  have KK:=hid (show A9 w (w11.setCell ⟨pb,7,none⟩ (.slice oo2 (c.lps.length+1) oc2)) from(hK9.drew.upd hU11 (λk e=>by obtain⟨_,cur,h3⟩:=Ba hlo e;exact⟨_,h3,by show 9+2≠_;decide⟩)).set blk11 (by show 91+2≠_;decide) 7 _)
  clear hK9
  have p7:=AU h9.pr.blk 7
  change _=some (Value.slice po c.lps.length pc) at p7
  have hnl:nbk<W9.drew.heap.size:=(z2z.1 nb9).1
  have ba:=(z0z _ W9.drew).alloc (z1z W9.drew.heap.size) (.cells #[.string n.text] 9)
  have S5:W9.drew.cell? ⟨pb,7,none⟩=some (Value.slice po c.lps.length pc)/\W9.drew.cell? ⟨nbk,3,none⟩=some (.string n.text):=⟨p7,x3⟩
  have HS6:=hid (show (W9.drew.alloc (.cells #[.string n.text] 9)).cell? ⟨pb,7,none⟩=some (Value.slice po c.lps.length pc)/\(W9.drew.alloc (.cells #[.string n.text] 9)).cell? ⟨nbk,3,none⟩=some (.string n.text) from⟨(ba.cell (p:=⟨pb,7,none⟩) h9d.lt).trans S5.1,(ba.cell (p:=⟨nbk,3,none⟩) hnl).trans S5.2⟩)
  have hlk:(Value.slice po c.lps.length pc).ownBlock≠some nbk:=RZ hlo nb9 (by decide)
  have HS7:=hid (show w11.cell? ⟨pb,7,none⟩=some (Value.slice po c.lps.length pc)/\w11.cell? ⟨nbk,3,none⟩=some (.string n.text) from⟨AU blk11 7,cell_of_row _ _ 3 _ _ _ ((hU11.block nbk hnl hlk).trans nb9)⟩)
  have HZ:=hid z11
  have HR:=hid hr2
  clear h9 h9d hB9 nb9 HK HN HF hlo hown2 hgr2 hU11 blk11 z11 p7 hnl ba hlk hr2
  go_upto_region 14 with fail
  refine It.Eu (z:=11) (S:=λw'=>w'.cell? ⟨pb,7,none⟩=some (Value.slice po c.lps.length pc)/\w'.cell? ⟨nbk,3,none⟩=some (.string n.text)) (by kernel_rfl) ?_
  generalize W9.drew=Wd at *
  clear x0 x3 e2 e3 e4 e5 e10
  iterate 7 ((refine It.nL 0 ?_ rfl (by kernel_rfl) (λ_ _ _ h=>h) (Or.inl ⟨by rfl,?_⟩) S5 ?_);rotate_left;(focus (intro w' hSw;(obtain⟨s0,s1⟩:=hSw);go_simp;(try with_reducible rfl)));(try simp only[Act.put,zx1,zx2,zx3,zx4,zx5,zx6]))
  refine It.Aa (i:=7) (by kernel_rfl) rfl rfl (λK hK=>?_)
  refine It.AZ (λc h=>by cases h) ?_
  have HK1:=hid hK
  clear hK
  go_simp
  refine HK1.out _ _ (.inr HS6.out) ?_
  clear HK1
  (try simp only[Act.put,zx1,zx2,zx3,zx4,zx5,zx6])
  refine It.Aa (i:=8) (by kernel_rfl) rfl rfl (λK hK=>?_)
  refine It.AZ (λc h=>by cases h) ?_
  have HK1:=hid hK
  clear hK
  refine Lib.wp_append_run _ (.tmp 88) (.tmp 91) 89 89 rfl _ _ rfl rfl _ _ HR.out ?_
  refine HK1.out _ _ (.inr HS7.out) ?_
  clear HK1
  (try simp only[Act.put,zx1,zx2,zx3,zx4,zx5,zx6])
  refine It.Aa (i:=9) (by kernel_rfl) rfl rfl (λK hK=>?_)
  refine It.AZ (λc h=>by cases h) ?_
  have HK1:=hid hK
  clear hK
  go_simp
  refine HK1.out _ _ (.inr HS7.out) ?_
  clear HK1
  (try simp only[Act.put,zx1,zx2,zx3,zx4,zx5,zx6])
  refine It.Aa (i:=10) (by kernel_rfl) rfl rfl (λK hK=>?_)
  refine It.AZ (λc h=>by cases h) ?_
  have HK1:=hid hK
  clear hK
  go_simp
  refine HK1.out _ _ (.inr HS7.out) ?_
  clear HK1
  (try simp only[Act.put,zx1,zx2,zx3,zx4,zx5,zx6])
  refine It.Aa (i:=11) (by kernel_rfl) rfl rfl (λK hK=>?_)
  refine It.AZ (λc h=>by cases h) ?_
  have HK1:=hid hK
  clear hK
  have z7:=HZ.out
  have s7:=HS7.out.1
  go_simp
  refine HK1.out _ _ (.inl rfl) ?_
  clear HK1
  (try simp only[Act.put,zx1,zx2,zx3,zx4,zx5,zx6])
  refine It.EU (by kernel_rfl) ?_ _
  clear S5
  go_wp2
  refine bodyPost_end (results_none rfl _ _ _) rfl ?_
  exact⟨rfl,HB.out,KK.out,_,_,_,_,HH.out⟩
 ·skip
  have HK:=hid hk
  clear hk HD
  have e2:(n.kind==2)=false:=by rw[HK.out];rfl
  have e3:(n.kind==3)=false:=by rw[HK.out];rfl
  have e4:(n.kind==4)=false:=by rw[HK.out];rfl
  have e5:(n.kind==5)=false:=by rw[HK.out];rfl
  have e10:(n.kind==10)=false:=by rw[HK.out];rfl
  have e11:(n.kind==11)=true:=by rw[HK.out];rfl
  have hlo:W9.ownsRow B 9 1 (.slice po c.lps.length pc) c.lps.length (c.lps.reverse.map Value.string):=by
   have:=h9.pr.lps
   unfold GZ at this
   simpa using this
  obtain⟨pv1,w11,hr2,hown2,hgr2⟩:=Vm W9 89 _ _ _ hlo h9.size ⟨#[]⟩ (by omega)
  obtain⟨oo2,oc2,rfl⟩:=Et hown2
  have hU11:It.AL (λk=>(Value.slice po c.lps.length pc).ownBlock=some k) W9 w11:=((It.AL.refl _ _).alloc _).grown hgr2 (λk e=>.inl e)
  have blk11:=(hU11.block pb h9.lt h9.ne7).trans h9.pr.blk
  have z11:=thaw blk11 7
  have q7:=AU blk11 7
  change _=some (Value.slice po c.lps.length pc) at q7
  have HH:=hid (h9.pushL (x:=⟨#[]⟩) hU11 hown2 (by show c.lps.length<100000;omega))
  have HB:=hid (show Below B w (w11.setCell ⟨pb,7,none⟩ (.slice oo2 (c.lps.length+1) oc2)) from(hB9.trans (hU11.below h9.size (λk e=>(Ba hlo e).1))).setCell (p:=⟨pb,7,none⟩) h9.low _)
  have KK:=hid (show A9 w (w11.setCell ⟨pb,7,none⟩ (.slice oo2 (c.lps.length+1) oc2)) from(hK9.upd hU11 (λk e=>by obtain⟨_,cur,h3⟩:=Ba hlo e;exact⟨_,h3,by show 9+2≠_;decide⟩)).set blk11 (by show 91+2≠_;decide) 7 _)
  clear hK9
  have p7:=AU h9.pr.blk 7
  change _=some (Value.slice po c.lps.length pc) at p7
  have HR:=hid hr2
  clear h9 hB9 nb9 HK HN HF hlo hown2 hgr2 hU11 blk11 hr2 x3
  go_upto_region 16 with fail
  go_wp2_with (at_builtin;refine Lib.wpList_append_run _ rfl (.tmp 101) (.tmp 102) 89 89 rfl (.slice po c.lps.length pc) (.slice (some ⟨W9.heap.size,0,none⟩) 1 1) (by simp[Act.eval]) (by simp[Act.eval]) _ w11 HR.out ?_)
  refine bodyPost_end (results_none rfl _ _ _) rfl ?_
  exact⟨rfl,HB.out,KK.out,_,_,_,_,HH.out⟩
 ·skip
  have HK:=hid hk
  clear hk HD
  have HC:=hid hcs
  clear hcs
  have e2:(n.kind==2)=false:=by rw[HK.out];rfl
  have e3:(n.kind==3)=false:=by rw[HK.out];rfl
  have e4:(n.kind==4)=true:=by rw[HK.out];rfl
  have h9d:=h9.drew
  obtain⟨mb,br,lm,lr,hbs,hcs2,hm,ci⟩:=h9d.pr.inn
  simp only at hcs2
  have e0:=HC.out.symm.trans hcs2
  obtain⟨h1',h2'⟩:s0=lm/\sr=lr:=by simpa using e0
  subst h1'
  subst h2'
  obtain⟨W10,hput,hm10,hg10⟩:=Lu (P:=prog) J5 II hm n.text a
  have hU10:It.AL (λk=>k=mb) W9.drew W10:=(It.AL.refl _ _).grown hg10 (λk e=>.inl (by cases e;rfl))
  have HH:=hid (h9d.putS hbs hcs2 hU10 hm10)
  have HB:=hid (hB9.drew.trans (hU10.below h9d.size (λk e=>by subst e;exact h9d.lows _ (by rw[hbs];simp))))
  have KK:=hid (hK9.drew.upd hU10 (λk e=>by obtain⟨es,kk9,q9⟩:=h9d.mobj mb (by rw[hbs];simp);exact⟨.map es kk9,by rw[e];exact q9,by show 1≠_;decide⟩))
  clear hK9
  have p6:=AU h9.pr.blk 6
  change _=some (Value.slice so c.scs.length sc) at p6
  have HP:=hid hput
  clear h9 h9d hB9 nb9 HK HN HF hm10 hg10 hU10 hput hm hbs e0 hcs2 HC
  go_upto_region 10 with fail
  refine It.Eu (z:=8) (S:=λw'=>w'.cell? ⟨pb,6,none⟩=some (Value.slice so c.scs.length sc)/\w'.cell? ⟨nbk,3,none⟩=some (.string n.text)) (by kernel_rfl) ?_
  have S5:W9.drew.cell? ⟨pb,6,none⟩=some (Value.slice so c.scs.length sc)/\W9.drew.cell? ⟨nbk,3,none⟩=some (.string n.text):=⟨p6,x3⟩
  clear p6 x0 x3 e2 e3 e4
  iterate 4 ((refine It.nL 0 ?_ rfl (by kernel_rfl) (λ_ _ _ h=>h) (Or.inl ⟨by rfl,?_⟩) S5 ?_);rotate_left;(focus (intro w' hSw;(obtain⟨s0,s1⟩:=hSw);go_simp;(try with_reducible rfl)));(try simp only[Act.put,zx1,zx2,zx3,zx4,zx5,zx6]))
  iterate 3 ((refine It.nL 5 ?_ rfl (by kernel_rfl) (λ_ _ _ h=>h) (Or.inl ⟨by rfl,?_⟩) S5 ?_);rotate_left;(focus (intro w' hSw;(obtain⟨s0,s1⟩:=hSw);go_simp;(try with_reducible rfl)));(try simp only[Act.put,zx1,zx2,zx3,zx4,zx5,zx6]))
  refine It.Aa (i:=4) (by kernel_rfl) rfl rfl (λK hK=>?_)
  refine It.AZ (λc h=>by cases h) ?_
  have HK1:=hid hK
  clear hK
  go_simp
  refine ci.mono ?_
  rintro e w12 ⟨rfl,hw⟩
  have hw':=hw.symm
  subst hw'
  refine HK1.out _ _ (.inr S5) ?_
  clear HK1 hw ci
  (try simp only[Act.put,zx1,zx2,zx3,zx4,zx5,zx6])
  refine It.Aa (i:=8) (by kernel_rfl) rfl rfl (λK hK=>?_)
  refine It.AZ (λc h=>by cases h) ?_
  have HK1:=hid hK
  clear hK
  have hput:=HP.out
  go_simp
  refine HK1.out _ _ (.inl rfl) ?_
  clear HK1
  (try simp only[Act.put,zx1,zx2,zx3,zx4,zx5,zx6])
  refine It.EU (by kernel_rfl) ?_ _
  clear S5
  go_wp2
  refine bodyPost_end (results_none rfl _ _ _) rfl ?_
  exact⟨rfl,HB.out,KK.out,_,_,_,_,HH.out⟩
theorem AAT(h:Pz B w pb L E mr pm lv ev mp mt mc ov sv pv bs c)(a:Nat){n:Nd}{kids:Nat}(hn:L[a]? = some (n,kids))(hf:c.opn.length<99999/\c.scs.length<199990/\c.lps.length<99990)(hk:n.kind≠2/\n.kind≠3/\n.kind≠4/\n.kind≠5/\n.kind≠10/\n.kind≠11/\n.kind≠12/\n.kind≠26/\n.kind≠27/\n.kind≠28) :
  Calls prog 40 #[.pointer (some ⟨pb,0,none⟩),.int .i64 (a:Nat)] w λe w'=>e=.returned (.tuple #[])/\Below B w w'/\A9 w w'/\∃ov' sv' pv' bs',Pz B w' pb L E mr pm lv ev mp mt mc ov' sv' pv' bs' { c with opn:=(a,c.scs.length,c.lps.length)::c.opn }:=
 Oi h a hn hf (.inl ⟨hk,rfl⟩)
theorem vZ(h:Pz B w pb L E mr pm lv ev mp mt mc ov sv pv bs c)(a:Nat){n:Nd}{kids:Nat}(hn:L[a]? = some (n,kids))(hf:c.opn.length<99999/\c.scs.length<199990/\c.lps.length<99990)(hk:n.kind=2) :
  Calls prog 40 #[.pointer (some ⟨pb,0,none⟩),.int .i64 (a:Nat)] w λe w'=>e=.returned (.tuple #[])/\Below B w w'/\A9 w w'/\∃ov' sv' pv' bs',Pz B w' pb L E mr pm lv ev mp mt mc ov' sv' pv' bs' { c with taken:=EM c.taken n.text a,opn:=(a,c.scs.length,c.lps.length)::c.opn }:=
 Oi h a hn hf (.inr (.inl ⟨hk,rfl⟩))
theorem AAD(h:Pz B w pb L E mr pm lv ev mp mt mc ov sv pv bs c)(a:Nat){n:Nd}{kids:Nat}(hn:L[a]? = some (n,kids))(hf:c.opn.length<99999/\c.scs.length<199990/\c.lps.length<99990)(hk:n.kind=10) :
  Calls prog 40 #[.pointer (some ⟨pb,0,none⟩),.int .i64 (a:Nat)] w λe w'=>e=.returned (.tuple #[])/\Below B w w'/\A9 w w'/\∃ov' sv' pv' bs',Pz B w' pb L E mr pm lv ev mp mt mc ov' sv' pv' bs' { c with lps:=n.text::c.lps,opn:=(a,c.scs.length,c.lps.length)::c.opn }:=
 Oi h a hn hf (.inr (.inr (.inl ⟨hk,rfl⟩)))
theorem lK(h:Pz B w pb L E mr pm lv ev mp mt mc ov sv pv bs c)(a:Nat){n:Nd}{kids:Nat}(hn:L[a]? = some (n,kids))(hf:c.opn.length<99999/\c.scs.length<199990/\c.lps.length<99990)(hk:n.kind=11) :
  Calls prog 40 #[.pointer (some ⟨pb,0,none⟩),.int .i64 (a:Nat)] w λe w'=>e=.returned (.tuple #[])/\Below B w w'/\A9 w w'/\∃ov' sv' pv' bs',Pz B w' pb L E mr pm lv ev mp mt mc ov' sv' pv' bs' { c with lps:=⟨#[]⟩::c.lps,opn:=(a,c.scs.length,c.lps.length)::c.opn }:=
 Oi h a hn hf (.inr (.inr (.inr (.inl ⟨hk,rfl⟩))))
theorem ACG(h:Pz B w pb L E mr pm lv ev mp mt mc ov sv pv bs c)(a:Nat){n:Nd}{kids:Nat}(hn:L[a]? = some (n,kids))(hf:c.opn.length<99999/\c.scs.length<199990/\c.lps.length<99990)(hk:n.kind=4){s0:List (ByteArray × Nat)}{sr:List (List (ByteArray × Nat))}(hcs:c.scs=s0::sr) :
  Calls prog 40 #[.pointer (some ⟨pb,0,none⟩),.int .i64 (a:Nat)] w λe w'=>e=.returned (.tuple #[])/\Below B w w'/\A9 w w'/\∃ov' sv' pv' bs',Pz B w' pb L E mr pm lv ev mp mt mc ov' sv' pv' bs' { c with scs:=EM s0 n.text a::sr,opn:=(a,c.scs.length,c.lps.length)::c.opn }:=
 Oi h a hn hf (.inr (.inr (.inr (.inr ⟨_,_,hk,hcs,rfl⟩))))
end
end Go.Proofs.YtjplieobnknnpaaGreatDoor.W.Tr
