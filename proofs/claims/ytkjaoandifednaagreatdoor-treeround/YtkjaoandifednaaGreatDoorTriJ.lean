import Derived.Test.YtkjaoandifednaaGreatDoorTrhJ
open List renaming getElem_toArray → zx1, getElem_cons_zero → zx2, getElem_cons_succ → zx3, setIfInBounds_toArray → zx4, set_cons_zero → zx5, set_cons_succ → zx6
namespace Go.Proofs.YtkjaoandifednaaGreatDoor.W.Tr
open Go.ChangeShapes Go.WideShapes Go.RowKit Go.Shelf
set_option linter.unusedVariables false
set_option linter.unusedSimpArgs false
set_option maxRecDepth 100000 in
set_option maxHeartbeats 1000000 in
theorem plainS_c (n:Nat) (ce:Con 126 .ex n) (ca:ConA 127 n):Con 109 .pl (n + 1):=by
 intro W cb Ys v s r hC hP
 have hx:=Sx.start hC
 clear hC
 simp only [P] at hP
 unfold ConA at ca
 rcases bind_inv hP with ⟨f,q1,rfl⟩ | ⟨f1,s1,q1,hP⟩
 ·clear hP
  go_enter Tryz.func109,Tryz.ntmps109
  go_wp2_with ((go_at_call 126;(with_reducible refine (Sx.partE hx ce q1).mono ?_);rintro e w9 ⟨he,ht,hu⟩;(unfold pan fv at he);subst he))
  exact ⟨rfl,rfl,ht,hu⟩
 obtain ⟨m,ks,rfl,hks⟩:=made n .ex _ s f1 s1 (Nat.le_refl _) trivial q1
 have hlen:ks.len≤1900000:=by have:=hx.all;omega
 replace hP:(lookM.bind fun z=>if fixedT z.t=k_eqs∧m.kind=25 then P n (.asg ⟨7,m.a,m.text,m.int,m.bits⟩ ks) else if fixedT z.t=k_eqs∧m.kind=24 then P n (.asg ⟨8,m.a,m.text,m.int,m.bits⟩ ks) else (wantM k_semi).bind fun _=>Pm.pure (Fo.one ⟨17,m.a,⟨#[]⟩,0,0⟩ (Fo.one m ks))) s1=some r:=hP
 have HLN:=hid hlen
 clear hks hlen
 rcases look_inv hP with ⟨f,h2,rfl⟩ | ⟨y2,h2,hP⟩
 ·clear hP
  go_enter Tryz.func109,Tryz.ntmps109
  go_wp2_with (first | (go_at_call 126;(with_reducible refine (Sx.part hx ce q1).mono ?_);rintro e w2 ⟨b1,rfl,hx2⟩;(replace hx:=hx2);clear hx2) | (go_at_call 27;(with_reducible refine (Sx.seesE hx h2 _ _).mono ?_);rintro e w9 ⟨he,ht,hu⟩;(unfold pan fv at he);subst he))
  exact ⟨rfl,rfl,ht,hu⟩
 by_cases g2:fixedT y2.t=k_eqs
 ·by_cases c25:m.kind=25
  ·skip
   rw [if_pos ⟨g2,c25⟩] at hP
   have e25:(m.kind == 25)=true:=by simp [c25]
   clear c25
   match r,hP with
   | .error f,hP=>
    go_enter Tryz.func109,Tryz.ntmps109
    go_upto_region 6 with (first | (go_at_call 126;(with_reducible refine (Sx.part hx ce q1).mono ?_);rintro e w2 ⟨b1,rfl,hx2⟩;(replace hx:=hx2);clear hx2) | (go_at_call 27;(with_reducible refine (Sx.sees1t hx h2 _ g2).mono ?_);rintro e w2 ⟨rfl,hx2⟩;(replace hx:=hx2);clear hx2;(obtain ⟨k0,k1,k3,zf⟩:=hx.cells (b:=b1) (nd:=m) (ks:=ks) (by simp));(have z0:=zf 0);clear zf))
    replace hx:=hx.set (b:=b1) (nd:=m) (nd':=⟨7,m.a,m.text,m.int,m.bits⟩) (ks:=ks) (by simp) 0 (.int .i64 7) (fun u=>rfl)
    clear k0 k1 k3 z0
    go_wp2_with (go_at_call 127;(with_reducible refine (ca _ _ _ _ _ _ _ _ _ _ HLN.out hx hP).mono ?_);rintro e w9 ⟨he,ht,hu⟩;(unfold pan fv at he);subst he)
    exact ⟨rfl,rfl,ht,hu⟩
   | .ok (fo,s2),hP=>
    go_enter Tryz.func109,Tryz.ntmps109
    go_upto_region 6 with (first | (go_at_call 126;(with_reducible refine (Sx.part hx ce q1).mono ?_);rintro e w2 ⟨b1,rfl,hx2⟩;(replace hx:=hx2);clear hx2) | (go_at_call 27;(with_reducible refine (Sx.sees1t hx h2 _ g2).mono ?_);rintro e w2 ⟨rfl,hx2⟩;(replace hx:=hx2);clear hx2;(obtain ⟨k0,k1,k3,zf⟩:=hx.cells (b:=b1) (nd:=m) (ks:=ks) (by simp));(have z0:=zf 0);clear zf))
    replace hx:=hx.set (b:=b1) (nd:=m) (nd':=⟨7,m.a,m.text,m.int,m.bits⟩) (ks:=ks) (by simp) 0 (.int .i64 7) (fun u=>rfl)
    clear k0 k1 k3 z0
    go_wp2_with (go_at_call 127;(with_reducible refine (ca _ _ _ _ _ _ _ _ _ _ HLN.out hx hP).mono ?_);rintro e w2 ⟨rfl,hx2⟩;(replace hx:=hx2);clear hx2)
    go_ret
    exact hx.res (List.mem_cons_self ..)
  by_cases c24:m.kind=24
  ·rw [if_neg (fun c=>c25 c.2)] at hP
   rw [if_pos ⟨g2,c24⟩] at hP
   have e25:(m.kind == 25)=false:=by simp [c25]
   have e24:(m.kind == 24)=true:=by simp [c24]
   clear c24
   match r,hP with
   | .error f,hP=>
    go_enter Tryz.func109,Tryz.ntmps109
    go_upto_region 9 with (first | (go_at_call 126;(with_reducible refine (Sx.part hx ce q1).mono ?_);rintro e w2 ⟨b1,rfl,hx2⟩;(replace hx:=hx2);clear hx2) | (go_at_call 27;(with_reducible refine (Sx.sees1t hx h2 _ g2).mono ?_);rintro e w2 ⟨rfl,hx2⟩;(replace hx:=hx2);clear hx2;(obtain ⟨k0,k1,k3,zf⟩:=hx.cells (b:=b1) (nd:=m) (ks:=ks) (by simp));(have z0:=zf 0);clear zf))
    replace hx:=hx.set (b:=b1) (nd:=m) (nd':=⟨8,m.a,m.text,m.int,m.bits⟩) (ks:=ks) (by simp) 0 (.int .i64 8) (fun u=>rfl)
    clear k0 k1 k3 z0
    go_wp2_with (go_at_call 127;(with_reducible refine (ca _ _ _ _ _ _ _ _ _ _ HLN.out hx hP).mono ?_);rintro e w9 ⟨he,ht,hu⟩;(unfold pan fv at he);subst he)
    exact ⟨rfl,rfl,ht,hu⟩
   | .ok (fo,s2),hP=>
    go_enter Tryz.func109,Tryz.ntmps109
    go_upto_region 9 with (first | (go_at_call 126;(with_reducible refine (Sx.part hx ce q1).mono ?_);rintro e w2 ⟨b1,rfl,hx2⟩;(replace hx:=hx2);clear hx2) | (go_at_call 27;(with_reducible refine (Sx.sees1t hx h2 _ g2).mono ?_);rintro e w2 ⟨rfl,hx2⟩;(replace hx:=hx2);clear hx2;(obtain ⟨k0,k1,k3,zf⟩:=hx.cells (b:=b1) (nd:=m) (ks:=ks) (by simp));(have z0:=zf 0);clear zf))
    replace hx:=hx.set (b:=b1) (nd:=m) (nd':=⟨8,m.a,m.text,m.int,m.bits⟩) (ks:=ks) (by simp) 0 (.int .i64 8) (fun u=>rfl)
    clear k0 k1 k3 z0
    go_wp2_with (go_at_call 127;(with_reducible refine (ca _ _ _ _ _ _ _ _ _ _ HLN.out hx hP).mono ?_);rintro e w2 ⟨rfl,hx2⟩;(replace hx:=hx2);clear hx2)
    go_ret
    exact hx.res (List.mem_cons_self ..)
  rw [if_neg (fun c=>c25 c.2),if_neg (fun c=>c24 c.2)] at hP
  have e25:(m.kind == 25)=false:=by simp [c25]
  have e24:(m.kind == 24)=false:=by simp [c24]
  rcases want_inv hP with ⟨f,h3,rfl⟩ | ⟨y3,h3,g3,rfl⟩ | ⟨y3,h3,g3,hP⟩
  ·clear hP
   go_enter Tryz.func109,Tryz.ntmps109
   go_wp2_with (first | (go_at_call 126;(with_reducible refine (Sx.part hx ce q1).mono ?_);rintro e w2 ⟨b1,rfl,hx2⟩;(replace hx:=hx2);clear hx2) | (go_at_call 27;(with_reducible refine (Sx.sees1t hx h2 _ g2).mono ?_);rintro e w2 ⟨rfl,hx2⟩;(replace hx:=hx2);clear hx2;(obtain ⟨k0,k1,k3,zf⟩:=hx.cells (b:=b1) (nd:=m) (ks:=ks) (by simp));(have z0:=zf 0);clear zf) | (go_at_call 47;(with_reducible refine (Sx.wantE hx h3 _).mono ?_);rintro e w9 ⟨he,ht,hu⟩;(unfold pan fv at he);subst he))
   exact ⟨rfl,rfl,ht,hu⟩
  ·clear hP
   go_enter Tryz.func109,Tryz.ntmps109
   go_wp2_with (first | (go_at_call 126;(with_reducible refine (Sx.part hx ce q1).mono ?_);rintro e w2 ⟨b1,rfl,hx2⟩;(replace hx:=hx2);clear hx2) | (go_at_call 27;(with_reducible refine (Sx.sees1t hx h2 _ g2).mono ?_);rintro e w2 ⟨rfl,hx2⟩;(replace hx:=hx2);clear hx2;(obtain ⟨k0,k1,k3,zf⟩:=hx.cells (b:=b1) (nd:=m) (ks:=ks) (by simp));(have z0:=zf 0);clear zf) | (go_at_call 47;(with_reducible refine (Sx.wantB hx h3 _ g3).mono ?_);rintro e w9 ⟨he,ht,hu⟩;(unfold pan fv at he);subst he))
   exact ⟨rfl,rfl,ht,hu⟩
  ·skip
   obtain rfl:=pure_inv hP
   go_enter Tryz.func109,Tryz.ntmps109
   go_wp2_with (first | (go_at_call 126;(with_reducible refine (Sx.part hx ce q1).mono ?_);rintro e w2 ⟨b1,rfl,hx2⟩;(replace hx:=hx2);clear hx2) | (go_at_call 27;(with_reducible refine (Sx.sees1t hx h2 _ g2).mono ?_);rintro e w2 ⟨rfl,hx2⟩;(replace hx:=hx2);clear hx2;(obtain ⟨k0,k1,k3,zf⟩:=hx.cells (b:=b1) (nd:=m) (ks:=ks) (by simp));(have z0:=zf 0);clear zf) | (go_at_call 47;(with_reducible refine (Sx.want hx h3 _ g3).mono ?_);rintro e w2 ⟨rfl,hx2⟩;(replace hx:=hx2);clear hx2;(obtain ⟨k0,k1,k3,zf⟩:=hx.cells (b:=b1) (nd:=m) (ks:=ks) (by simp));(have z0:=zf 0);clear zf))
   go_ret
   have hN:=hx.nodeB (w':=(w2.alloc (.cells #[ptr b1] 50)).alloc (.cells (ndc ⟨17,m.a,⟨#[]⟩,0,0⟩ (.slice (some ⟨w2.heap.size,0,none⟩) 1 1)) 70)) (bs:=[b1]) (nd:=⟨17,m.a,⟨#[]⟩,0,0⟩) (hx.ts (b1,Fo.one m ks) (by simp)) (by have:=one_le;simp;omega) rfl ((Below.refl _ _).alloc (Nat.le_refl _) _) (World.alloc_heap_new _ _)
   rw [World.size_alloc] at hN
   exact hN.res (List.mem_cons_self ..)
 ·rw [if_neg (fun c=>g2 c.1),if_neg (fun c=>g2 c.1)] at hP
  rcases want_inv hP with ⟨f,h4,rfl⟩ | ⟨y4,h4,g4,rfl⟩ | ⟨y4,h4,g4,hP⟩
  ·clear hP
   go_enter Tryz.func109,Tryz.ntmps109
   go_wp2_with (first | (go_at_call 126;(with_reducible refine (Sx.part hx ce q1).mono ?_);rintro e w2 ⟨b1,rfl,hx2⟩;(replace hx:=hx2);clear hx2) | (go_at_call 27;(with_reducible refine (Sx.sees1f hx h2 _ g2).mono ?_);rintro e w2 ⟨rfl,hx2⟩;(replace hx:=hx2);clear hx2;(obtain ⟨k0,k1,k3,zf⟩:=hx.cells (b:=b1) (nd:=m) (ks:=ks) (by simp));(have z0:=zf 0);clear zf) | (go_at_call 47;(with_reducible refine (Sx.wantE hx h4 _).mono ?_);rintro e w9 ⟨he,ht,hu⟩;(unfold pan fv at he);subst he))
   exact ⟨rfl,rfl,ht,hu⟩
  ·clear hP
   go_enter Tryz.func109,Tryz.ntmps109
   go_wp2_with (first | (go_at_call 126;(with_reducible refine (Sx.part hx ce q1).mono ?_);rintro e w2 ⟨b1,rfl,hx2⟩;(replace hx:=hx2);clear hx2) | (go_at_call 27;(with_reducible refine (Sx.sees1f hx h2 _ g2).mono ?_);rintro e w2 ⟨rfl,hx2⟩;(replace hx:=hx2);clear hx2;(obtain ⟨k0,k1,k3,zf⟩:=hx.cells (b:=b1) (nd:=m) (ks:=ks) (by simp));(have z0:=zf 0);clear zf) | (go_at_call 47;(with_reducible refine (Sx.wantB hx h4 _ g4).mono ?_);rintro e w9 ⟨he,ht,hu⟩;(unfold pan fv at he);subst he))
   exact ⟨rfl,rfl,ht,hu⟩
  ·skip
   obtain rfl:=pure_inv hP
   go_enter Tryz.func109,Tryz.ntmps109
   go_wp2_with (first | (go_at_call 126;(with_reducible refine (Sx.part hx ce q1).mono ?_);rintro e w2 ⟨b1,rfl,hx2⟩;(replace hx:=hx2);clear hx2) | (go_at_call 27;(with_reducible refine (Sx.sees1f hx h2 _ g2).mono ?_);rintro e w2 ⟨rfl,hx2⟩;(replace hx:=hx2);clear hx2;(obtain ⟨k0,k1,k3,zf⟩:=hx.cells (b:=b1) (nd:=m) (ks:=ks) (by simp));(have z0:=zf 0);clear zf) | (go_at_call 47;(with_reducible refine (Sx.want hx h4 _ g4).mono ?_);rintro e w2 ⟨rfl,hx2⟩;(replace hx:=hx2);clear hx2;(obtain ⟨k0,k1,k3,zf⟩:=hx.cells (b:=b1) (nd:=m) (ks:=ks) (by simp));(have z0:=zf 0);clear zf))
   go_ret
   have hN:=hx.nodeB (w':=(w2.alloc (.cells #[ptr b1] 50)).alloc (.cells (ndc ⟨17,m.a,⟨#[]⟩,0,0⟩ (.slice (some ⟨w2.heap.size,0,none⟩) 1 1)) 70)) (bs:=[b1]) (nd:=⟨17,m.a,⟨#[]⟩,0,0⟩) (hx.ts (b1,Fo.one m ks) (by simp)) (by have:=one_le;simp;omega) rfl ((Below.refl _ _).alloc (Nat.le_refl _) _) (World.alloc_heap_new _ _)
   rw [World.size_alloc] at hN
   exact hN.res (List.mem_cons_self ..)
set_option maxRecDepth 100000 in
set_option maxHeartbeats 1000000 in
theorem program_c (n:Nat) (cg:∀ m,m < n→Con 28 .gl m) (cf:∀ m,m < n→Con 29 .fu m):Con 18 (.pg .nil) n:=by
 intro W cb Ys v s r hC hP
 have hx:=Sx.start hC
 clear hC
 have HP:=hid hP
 clear hP
 have tf:=tok_f0
 go_enter Tryz.func18,Tryz.ntmps18
 go_wp2_with (go_at_call 25;(with_reducible refine (hx.at0Z 1).mono ?_);rintro e w2 ⟨b0,rfl,hx2⟩;(replace hx:=hx2);clear hx2)
 have HX:=hid hx
 clear hx
 go_loopw [6] (fun _ wr=>∃ ks s' m,Sx W wr cb Ys v s' [(b0,Fo.one ⟨1,0,⟨#[]⟩,0,0⟩ ks)] []∧P m (.pg ks) s'=some r∧m≤n∧ks.len + s'.r.length≤Ys.length) (fun _ wr=>Ys.length - atW wr cb)
 case atStart=>exact ⟨.nil,_,n,HX.out,HP.out,Nat.le_refl _,by have:=HX.out.all.1;simp only [Fo.len];omega⟩
 case round=>
  obtain ⟨ks,s',m,hx,hP,hm,hks⟩:=hrel
  clear HP HX
  have HM:=hid hx.left
  have HK2:=hid (And.intro hks hx.all.2)
  clear hks
  match m,hP with
  | 0,hP=>exact (P_zero hP).elim
  | m + 1,hP=>
   simp only [P] at hP
   rcases look_inv hP with ⟨f,h1,rfl⟩ | ⟨y1,h1,hP⟩
   ·clear hP
    go_wp2_with ((go_at_call 26;(with_reducible refine (Sx.lookE hx h1).mono ?_);rintro e w9 ⟨he,ht,hu⟩;(unfold pan fv at he);subst he))
    exact ⟨rfl,rfl,ht,hu⟩
   ·by_cases g7:y1.t.kind=7
    ·rw [if_pos g7] at hP
     have e7:(y1.t.kind == 7)=true:=by simp [g7]
     clear g7
     obtain rfl:=pure_inv hP
     go_wp2_with ((go_at_call 26;(with_reducible refine (Sx.look hx h1).mono ?_);rintro e w2 ⟨he,hx2⟩;(unfold tv at he);subst he;(replace hx:=hx2);clear hx2))
     go_ret
     exact hx.res (List.mem_cons_self ..)
    ·rw [if_neg g7] at hP
     have e7:(y1.t.kind == 7)=false:=by simp [g7]
     clear g7
     by_cases g2:fixedT y1.t=k_let
     ·rw [if_pos g2] at hP
      rcases bind_inv hP with ⟨f,q9,rfl⟩ | ⟨f9,s9,q9,hP⟩
      ·clear hP
       go_upto_region 4 with (first | (go_at_call 26;(with_reducible refine (Sx.look hx h1).mono ?_);rintro e w2 ⟨he,hx2⟩;(unfold tv at he);subst he;(replace hx:=hx2);clear hx2) | (go_at_call 27;(with_reducible refine (Sx.sees1t hx h1 _ g2).mono ?_);rintro e w2 ⟨rfl,hx2⟩;(replace hx:=hx2);clear hx2))
       obtain ⟨u,bk,hbr⟩:=Br.of (hx.ts (b0,Fo.one ⟨1,0,⟨#[]⟩,0,0⟩ ks) (by simp))
       have hlen:=FoAt.len hbr.kids
       obtain ⟨uo,uc,rfl⟩:=hbr.slice
       replace hx:=hx.drew
       have HB:=hid (hbr.upd hx.cx.lt (It.Upd.of_below (Below.refl _ _).drew))
       have HL:=hid hlen
       clear hbr hlen
       refine It.plain_anyL (z:=11) (S:=fun w'=>w'.cell? ⟨b0,6,none⟩=some (Value.slice uo bk.length uc)) (by kernel_rfl) ?_
       have hS:_:=(row_cellsX HB.out.top 6:_=some (Value.slice uo bk.length uc))
       (refine It.anyL_take (i:=0) (v:=?_) rfl (by kernel_rfl) (by kernel_rfl) (by kernel_rfl) (by kernel_rfl) (fun _ _ _ h=>h) (Or.inl ⟨by rfl,?_⟩) hS ?_);rotate_left;(focus (intro w' hSw;go_simp;(try with_reducible rfl)));(try simp only [Act.put,zx1,zx2,zx3,zx4,zx5,zx6])
       (refine It.anyL_take (i:=1) (v:=?_) rfl (by kernel_rfl) (by kernel_rfl) (by kernel_rfl) (by kernel_rfl) (fun _ _ _ h=>h) (Or.inl ⟨by rfl,?_⟩) hS ?_);rotate_left;(focus (intro w' hSw;go_simp;(try with_reducible rfl)));(try simp only [Act.put,zx1,zx2,zx3,zx4,zx5,zx6])
       (refine It.anyL_take (i:=2) (v:=?_) rfl (by kernel_rfl) (by kernel_rfl) (by kernel_rfl) (by kernel_rfl) (fun _ _ _ h=>h) (Or.inl ⟨by rfl,?_⟩) hS ?_);rotate_left;(focus (intro w' hSw;go_simp;(try with_reducible rfl)));(try simp only [Act.put,zx1,zx2,zx3,zx4,zx5,zx6])
       (refine It.anyL_take (i:=3) (v:=?_) rfl (by kernel_rfl) (by kernel_rfl) (by kernel_rfl) (by kernel_rfl) (fun _ _ _ h=>h) (Or.inl ⟨by rfl,?_⟩) hS ?_);rotate_left;(focus (intro w' hSw;go_simp;(try with_reducible rfl)));(try simp only [Act.put,zx1,zx2,zx3,zx4,zx5,zx6])
       (refine It.anyL_take (i:=4) (v:=?_) rfl (by kernel_rfl) (by kernel_rfl) (by kernel_rfl) (by kernel_rfl) (fun _ _ _ h=>h) (Or.inl ⟨by rfl,?_⟩) hS ?_);rotate_left;(focus (intro w' hSw;go_simp;(try with_reducible rfl)));(try simp only [Act.put,zx1,zx2,zx3,zx4,zx5,zx6])
       (refine It.anyL_take (i:=5) (v:=?_) rfl (by kernel_rfl) (by kernel_rfl) (by kernel_rfl) (by kernel_rfl) (fun _ _ _ h=>h) (Or.inl ⟨by rfl,?_⟩) hS ?_);rotate_left;(focus (intro w' hSw;go_simp;(try with_reducible rfl)));(try simp only [Act.put,zx1,zx2,zx3,zx4,zx5,zx6])
       refine It.anyL_one (i:=6) (by kernel_rfl) rfl rfl (fun K hK=>?_)
       refine It.opIn_plain (fun c h=>by cases h) ?_
       have HK:=hid hK
       clear hK
       go_simp
       refine (hx.partE (cg m (by omega)) q9).mono ?_
       rintro e w9 ⟨he,ht,hu⟩
       unfold pan fv at he
       subst he
       exact ⟨rfl,rfl,ht,hu⟩
      ·have HP2:=hid hP
       clear hP
       go_upto_region 4 with (first | (go_at_call 26;(with_reducible refine (Sx.look hx h1).mono ?_);rintro e w2 ⟨he,hx2⟩;(unfold tv at he);subst he;(replace hx:=hx2);clear hx2) | (go_at_call 27;(with_reducible refine (Sx.sees1t hx h1 _ g2).mono ?_);rintro e w2 ⟨rfl,hx2⟩;(replace hx:=hx2);clear hx2))
       obtain ⟨u,bk,hbr⟩:=Br.of (hx.ts (b0,Fo.one ⟨1,0,⟨#[]⟩,0,0⟩ ks) (by simp))
       have hlen:=FoAt.len hbr.kids
       obtain ⟨uo,uc,rfl⟩:=hbr.slice
       replace hx:=hx.drew
       have HB:=hid (hbr.upd hx.cx.lt (It.Upd.of_below (Below.refl _ _).drew))
       have HL:=hid hlen
       clear hbr hlen
       refine It.plain_anyL (z:=11) (S:=fun w'=>w'.cell? ⟨b0,6,none⟩=some (Value.slice uo bk.length uc)) (by kernel_rfl) ?_
       have hS:_:=(row_cellsX HB.out.top 6:_=some (Value.slice uo bk.length uc))
       (refine It.anyL_take (i:=0) (v:=?_) rfl (by kernel_rfl) (by kernel_rfl) (by kernel_rfl) (by kernel_rfl) (fun _ _ _ h=>h) (Or.inl ⟨by rfl,?_⟩) hS ?_);rotate_left;(focus (intro w' hSw;go_simp;(try with_reducible rfl)));(try simp only [Act.put,zx1,zx2,zx3,zx4,zx5,zx6])
       (refine It.anyL_take (i:=1) (v:=?_) rfl (by kernel_rfl) (by kernel_rfl) (by kernel_rfl) (by kernel_rfl) (fun _ _ _ h=>h) (Or.inl ⟨by rfl,?_⟩) hS ?_);rotate_left;(focus (intro w' hSw;go_simp;(try with_reducible rfl)));(try simp only [Act.put,zx1,zx2,zx3,zx4,zx5,zx6])
       (refine It.anyL_take (i:=2) (v:=?_) rfl (by kernel_rfl) (by kernel_rfl) (by kernel_rfl) (by kernel_rfl) (fun _ _ _ h=>h) (Or.inl ⟨by rfl,?_⟩) hS ?_);rotate_left;(focus (intro w' hSw;go_simp;(try with_reducible rfl)));(try simp only [Act.put,zx1,zx2,zx3,zx4,zx5,zx6])
       (refine It.anyL_take (i:=3) (v:=?_) rfl (by kernel_rfl) (by kernel_rfl) (by kernel_rfl) (by kernel_rfl) (fun _ _ _ h=>h) (Or.inl ⟨by rfl,?_⟩) hS ?_);rotate_left;(focus (intro w' hSw;go_simp;(try with_reducible rfl)));(try simp only [Act.put,zx1,zx2,zx3,zx4,zx5,zx6])
       (refine It.anyL_take (i:=4) (v:=?_) rfl (by kernel_rfl) (by kernel_rfl) (by kernel_rfl) (by kernel_rfl) (fun _ _ _ h=>h) (Or.inl ⟨by rfl,?_⟩) hS ?_);rotate_left;(focus (intro w' hSw;go_simp;(try with_reducible rfl)));(try simp only [Act.put,zx1,zx2,zx3,zx4,zx5,zx6])
       (refine It.anyL_take (i:=5) (v:=?_) rfl (by kernel_rfl) (by kernel_rfl) (by kernel_rfl) (by kernel_rfl) (fun _ _ _ h=>h) (Or.inl ⟨by rfl,?_⟩) hS ?_);rotate_left;(focus (intro w' hSw;go_simp;(try with_reducible rfl)));(try simp only [Act.put,zx1,zx2,zx3,zx4,zx5,zx6])
       refine It.anyL_one (i:=6) (by kernel_rfl) rfl rfl (fun K hK=>?_)
       refine It.opIn_plain (fun c h=>by cases h) ?_
       have HK:=hid hK
       clear hK
       go_simp
       refine (hx.partN (cg m (by omega)) q9).mono ?_
       rintro e w2 ⟨x,rfl,hx2,hU,hfx⟩
       have hb2:=HB.out.upd hx.cx.lt hU
       refine HK.out _ _ (.inr (row_cellsX hb2.top 6)) ?_
       clear HK hS
       (try simp only [Act.put,zx1,zx2,zx3,zx4,zx5,zx6])
       obtain ⟨u2,w4,hrun,ho2,hg2,hk2⟩:=append_ptr w2 68 (.slice uo bk.length uc) bk.length _ hb2.row hx2.cx.upd.size x (by have:=HL.out;have:=HK2.out;omega)
       obtain ⟨o2,c2,rfl⟩:=slice_ofX ho2
       refine It.anyL_one (i:=7) (by kernel_rfl) rfl rfl (fun K hK=>?_)
       refine It.opIn_plain (fun c h=>by cases h) ?_
       have HK:=hid hK
       clear hK
       go_simp
       have hb3:=row_keepX hb2.top ((Below.refl _ w2).alloc (Nat.le_refl _) (.cells #[ptr x] 50))
       refine HK.out _ _ (.inr (row_cellsX hb3 6)) ?_
       clear HK
       (try simp only [Act.put,zx1,zx2,zx3,zx4,zx5,zx6])
       refine It.anyL_one (i:=8) (by kernel_rfl) rfl rfl (fun K hK=>?_)
       refine It.opIn_plain (fun c h=>by cases h) ?_
       refine Lib.wp_append_run _ (.tmp 17) (.tmp 20) 68 68 rfl _ _ rfl rfl _ _ hrun ?_
       have t4:=(hg2.block _ (Array.getElem?_eq_some_iff.1 hb3).1 (fun e=>HB.out.ne _ e.symm rfl)).trans hb3
       have hS:_:=(row_cellsX t4 6:_=some (Value.slice uo bk.length uc))
       refine hK _ _ (.inr hS) ?_
       clear hK K hrun
       (try simp only [Act.put,zx1,zx2,zx3,zx4,zx5,zx6])
       refine It.anyL_one (i:=9) (by kernel_rfl) rfl rfl (fun K hK=>?_)
       refine It.opIn_plain (fun c h=>by cases h) ?_
       have HK:=hid hK
       clear hK
       go_simp
       refine HK.out _ _ (.inr hS) ?_
       clear HK
       (try simp only [Act.put,zx1,zx2,zx3,zx4,zx5,zx6])
       refine It.anyL_one (i:=10) (by kernel_rfl) rfl rfl (fun K hK=>?_)
       refine It.opIn_plain (fun c h=>by cases h) ?_
       have HK:=hid hK
       clear hK
       go_simp
       refine HK.out _ _ (.inr hS) ?_
       clear HK
       (try simp only [Act.put,zx1,zx2,zx3,zx4,zx5,zx6])
       refine It.anyL_one (i:=11) (by kernel_rfl) rfl rfl (fun K hK=>?_)
       refine It.opIn_plain (fun c h=>by cases h) ?_
       have HK:=hid hK
       clear hK
       have zz:=row_thawX t4 6
       go_simp
       have hx3:=hx2.append hU hx.cx.upd.size HB.out hfx ho2 hg2 hk2
       refine HK.out _ _ (.inl rfl) ?_
       clear HK
       (try simp only [Act.put,zx1,zx2,zx3,zx4,zx5,zx6])
       have HF:=hid (show _=1 from (FoAt.len hfx).symm)
       replace hx:=hx3
       clear hx3 hx2 hU hfx HB HL hb2 hb3 t4 zz hS ho2 hg2 hk2
       refine It.anyL_done (by kernel_rfl) ?_ _
       go_wp2
       go_roundw
       case rel=>
        have hle:=P_le q9
        have e1:least .gl=1:=rfl
        have h2:=HK2.out
        refine ⟨_,_,m,hx,HP2.out,by omega,?_⟩
        rw [Fo.len_app,HF.out]
        omega
       case measure=>
        rw [hx.left,HM.out]
        have hle:=P_le q9
        have e1:least .gl=1:=rfl
        omega
     ·rw [if_neg g2] at hP
      rcases bind_inv hP with ⟨f,q9,rfl⟩ | ⟨f9,s9,q9,hP⟩
      ·clear hP
       go_upto_region 5 with (first | (go_at_call 26;(with_reducible refine (Sx.look hx h1).mono ?_);rintro e w2 ⟨he,hx2⟩;(unfold tv at he);subst he;(replace hx:=hx2);clear hx2) | (go_at_call 27;(with_reducible refine (Sx.sees1f hx h1 _ g2).mono ?_);rintro e w2 ⟨rfl,hx2⟩;(replace hx:=hx2);clear hx2))
       obtain ⟨u,bk,hbr⟩:=Br.of (hx.ts (b0,Fo.one ⟨1,0,⟨#[]⟩,0,0⟩ ks) (by simp))
       have hlen:=FoAt.len hbr.kids
       obtain ⟨uo,uc,rfl⟩:=hbr.slice
       replace hx:=hx.drew
       have HB:=hid (hbr.upd hx.cx.lt (It.Upd.of_below (Below.refl _ _).drew))
       have HL:=hid hlen
       clear hbr hlen
       refine It.plain_anyL (z:=11) (S:=fun w'=>w'.cell? ⟨b0,6,none⟩=some (Value.slice uo bk.length uc)) (by kernel_rfl) ?_
       have hS:_:=(row_cellsX HB.out.top 6:_=some (Value.slice uo bk.length uc))
       (refine It.anyL_take (i:=0) (v:=?_) rfl (by kernel_rfl) (by kernel_rfl) (by kernel_rfl) (by kernel_rfl) (fun _ _ _ h=>h) (Or.inl ⟨by rfl,?_⟩) hS ?_);rotate_left;(focus (intro w' hSw;go_simp;(try with_reducible rfl)));(try simp only [Act.put,zx1,zx2,zx3,zx4,zx5,zx6])
       (refine It.anyL_take (i:=1) (v:=?_) rfl (by kernel_rfl) (by kernel_rfl) (by kernel_rfl) (by kernel_rfl) (fun _ _ _ h=>h) (Or.inl ⟨by rfl,?_⟩) hS ?_);rotate_left;(focus (intro w' hSw;go_simp;(try with_reducible rfl)));(try simp only [Act.put,zx1,zx2,zx3,zx4,zx5,zx6])
       (refine It.anyL_take (i:=2) (v:=?_) rfl (by kernel_rfl) (by kernel_rfl) (by kernel_rfl) (by kernel_rfl) (fun _ _ _ h=>h) (Or.inl ⟨by rfl,?_⟩) hS ?_);rotate_left;(focus (intro w' hSw;go_simp;(try with_reducible rfl)));(try simp only [Act.put,zx1,zx2,zx3,zx4,zx5,zx6])
       (refine It.anyL_take (i:=3) (v:=?_) rfl (by kernel_rfl) (by kernel_rfl) (by kernel_rfl) (by kernel_rfl) (fun _ _ _ h=>h) (Or.inl ⟨by rfl,?_⟩) hS ?_);rotate_left;(focus (intro w' hSw;go_simp;(try with_reducible rfl)));(try simp only [Act.put,zx1,zx2,zx3,zx4,zx5,zx6])
       (refine It.anyL_take (i:=4) (v:=?_) rfl (by kernel_rfl) (by kernel_rfl) (by kernel_rfl) (by kernel_rfl) (fun _ _ _ h=>h) (Or.inl ⟨by rfl,?_⟩) hS ?_);rotate_left;(focus (intro w' hSw;go_simp;(try with_reducible rfl)));(try simp only [Act.put,zx1,zx2,zx3,zx4,zx5,zx6])
       (refine It.anyL_take (i:=5) (v:=?_) rfl (by kernel_rfl) (by kernel_rfl) (by kernel_rfl) (by kernel_rfl) (fun _ _ _ h=>h) (Or.inl ⟨by rfl,?_⟩) hS ?_);rotate_left;(focus (intro w' hSw;go_simp;(try with_reducible rfl)));(try simp only [Act.put,zx1,zx2,zx3,zx4,zx5,zx6])
       refine It.anyL_one (i:=6) (by kernel_rfl) rfl rfl (fun K hK=>?_)
       refine It.opIn_plain (fun c h=>by cases h) ?_
       have HK:=hid hK
       clear hK
       go_simp
       refine (hx.partE (cf m (by omega)) q9).mono ?_
       rintro e w9 ⟨he,ht,hu⟩
       unfold pan fv at he
       subst he
       exact ⟨rfl,rfl,ht,hu⟩
      ·have HP2:=hid hP
       clear hP
       go_upto_region 5 with (first | (go_at_call 26;(with_reducible refine (Sx.look hx h1).mono ?_);rintro e w2 ⟨he,hx2⟩;(unfold tv at he);subst he;(replace hx:=hx2);clear hx2) | (go_at_call 27;(with_reducible refine (Sx.sees1f hx h1 _ g2).mono ?_);rintro e w2 ⟨rfl,hx2⟩;(replace hx:=hx2);clear hx2))
       obtain ⟨u,bk,hbr⟩:=Br.of (hx.ts (b0,Fo.one ⟨1,0,⟨#[]⟩,0,0⟩ ks) (by simp))
       have hlen:=FoAt.len hbr.kids
       obtain ⟨uo,uc,rfl⟩:=hbr.slice
       replace hx:=hx.drew
       have HB:=hid (hbr.upd hx.cx.lt (It.Upd.of_below (Below.refl _ _).drew))
       have HL:=hid hlen
       clear hbr hlen
       refine It.plain_anyL (z:=11) (S:=fun w'=>w'.cell? ⟨b0,6,none⟩=some (Value.slice uo bk.length uc)) (by kernel_rfl) ?_
       have hS:_:=(row_cellsX HB.out.top 6:_=some (Value.slice uo bk.length uc))
       (refine It.anyL_take (i:=0) (v:=?_) rfl (by kernel_rfl) (by kernel_rfl) (by kernel_rfl) (by kernel_rfl) (fun _ _ _ h=>h) (Or.inl ⟨by rfl,?_⟩) hS ?_);rotate_left;(focus (intro w' hSw;go_simp;(try with_reducible rfl)));(try simp only [Act.put,zx1,zx2,zx3,zx4,zx5,zx6])
       (refine It.anyL_take (i:=1) (v:=?_) rfl (by kernel_rfl) (by kernel_rfl) (by kernel_rfl) (by kernel_rfl) (fun _ _ _ h=>h) (Or.inl ⟨by rfl,?_⟩) hS ?_);rotate_left;(focus (intro w' hSw;go_simp;(try with_reducible rfl)));(try simp only [Act.put,zx1,zx2,zx3,zx4,zx5,zx6])
       (refine It.anyL_take (i:=2) (v:=?_) rfl (by kernel_rfl) (by kernel_rfl) (by kernel_rfl) (by kernel_rfl) (fun _ _ _ h=>h) (Or.inl ⟨by rfl,?_⟩) hS ?_);rotate_left;(focus (intro w' hSw;go_simp;(try with_reducible rfl)));(try simp only [Act.put,zx1,zx2,zx3,zx4,zx5,zx6])
       (refine It.anyL_take (i:=3) (v:=?_) rfl (by kernel_rfl) (by kernel_rfl) (by kernel_rfl) (by kernel_rfl) (fun _ _ _ h=>h) (Or.inl ⟨by rfl,?_⟩) hS ?_);rotate_left;(focus (intro w' hSw;go_simp;(try with_reducible rfl)));(try simp only [Act.put,zx1,zx2,zx3,zx4,zx5,zx6])
       (refine It.anyL_take (i:=4) (v:=?_) rfl (by kernel_rfl) (by kernel_rfl) (by kernel_rfl) (by kernel_rfl) (fun _ _ _ h=>h) (Or.inl ⟨by rfl,?_⟩) hS ?_);rotate_left;(focus (intro w' hSw;go_simp;(try with_reducible rfl)));(try simp only [Act.put,zx1,zx2,zx3,zx4,zx5,zx6])
       (refine It.anyL_take (i:=5) (v:=?_) rfl (by kernel_rfl) (by kernel_rfl) (by kernel_rfl) (by kernel_rfl) (fun _ _ _ h=>h) (Or.inl ⟨by rfl,?_⟩) hS ?_);rotate_left;(focus (intro w' hSw;go_simp;(try with_reducible rfl)));(try simp only [Act.put,zx1,zx2,zx3,zx4,zx5,zx6])
       refine It.anyL_one (i:=6) (by kernel_rfl) rfl rfl (fun K hK=>?_)
       refine It.opIn_plain (fun c h=>by cases h) ?_
       have HK:=hid hK
       clear hK
       go_simp
       refine (hx.partN (cf m (by omega)) q9).mono ?_
       rintro e w2 ⟨x,rfl,hx2,hU,hfx⟩
       have hb2:=HB.out.upd hx.cx.lt hU
       refine HK.out _ _ (.inr (row_cellsX hb2.top 6)) ?_
       clear HK hS
       (try simp only [Act.put,zx1,zx2,zx3,zx4,zx5,zx6])
       obtain ⟨u2,w4,hrun,ho2,hg2,hk2⟩:=append_ptr w2 68 (.slice uo bk.length uc) bk.length _ hb2.row hx2.cx.upd.size x (by have:=HL.out;have:=HK2.out;omega)
       obtain ⟨o2,c2,rfl⟩:=slice_ofX ho2
       refine It.anyL_one (i:=7) (by kernel_rfl) rfl rfl (fun K hK=>?_)
       refine It.opIn_plain (fun c h=>by cases h) ?_
       have HK:=hid hK
       clear hK
       go_simp
       have hb3:=row_keepX hb2.top ((Below.refl _ w2).alloc (Nat.le_refl _) (.cells #[ptr x] 50))
       refine HK.out _ _ (.inr (row_cellsX hb3 6)) ?_
       clear HK
       (try simp only [Act.put,zx1,zx2,zx3,zx4,zx5,zx6])
       refine It.anyL_one (i:=8) (by kernel_rfl) rfl rfl (fun K hK=>?_)
       refine It.opIn_plain (fun c h=>by cases h) ?_
       refine Lib.wp_append_run _ (.tmp 28) (.tmp 31) 68 68 rfl _ _ rfl rfl _ _ hrun ?_
       have t4:=(hg2.block _ (Array.getElem?_eq_some_iff.1 hb3).1 (fun e=>HB.out.ne _ e.symm rfl)).trans hb3
       have hS:_:=(row_cellsX t4 6:_=some (Value.slice uo bk.length uc))
       refine hK _ _ (.inr hS) ?_
       clear hK K hrun
       (try simp only [Act.put,zx1,zx2,zx3,zx4,zx5,zx6])
       refine It.anyL_one (i:=9) (by kernel_rfl) rfl rfl (fun K hK=>?_)
       refine It.opIn_plain (fun c h=>by cases h) ?_
       have HK:=hid hK
       clear hK
       go_simp
       refine HK.out _ _ (.inr hS) ?_
       clear HK
       (try simp only [Act.put,zx1,zx2,zx3,zx4,zx5,zx6])
       refine It.anyL_one (i:=10) (by kernel_rfl) rfl rfl (fun K hK=>?_)
       refine It.opIn_plain (fun c h=>by cases h) ?_
       have HK:=hid hK
       clear hK
       go_simp
       refine HK.out _ _ (.inr hS) ?_
       clear HK
       (try simp only [Act.put,zx1,zx2,zx3,zx4,zx5,zx6])
       refine It.anyL_one (i:=11) (by kernel_rfl) rfl rfl (fun K hK=>?_)
       refine It.opIn_plain (fun c h=>by cases h) ?_
       have HK:=hid hK
       clear hK
       have zz:=row_thawX t4 6
       go_simp
       have hx3:=hx2.append hU hx.cx.upd.size HB.out hfx ho2 hg2 hk2
       refine HK.out _ _ (.inl rfl) ?_
       clear HK
       (try simp only [Act.put,zx1,zx2,zx3,zx4,zx5,zx6])
       have HF:=hid (show _=1 from (FoAt.len hfx).symm)
       replace hx:=hx3
       clear hx3 hx2 hU hfx HB HL hb2 hb3 t4 zz hS ho2 hg2 hk2
       refine It.anyL_done (by kernel_rfl) ?_ _
       go_wp2
       go_roundw
       case rel=>
        have hle:=P_le q9
        have e1:least .fu=1:=rfl
        have h2:=HK2.out
        refine ⟨_,_,m,hx,HP2.out,by omega,?_⟩
        rw [Fo.len_app,HF.out]
        omega
       case measure=>
        rw [hx.left,HM.out]
        have hle:=P_le q9
        have e1:least .fu=1:=rfl
        omega
end Go.Proofs.YtkjaoandifednaaGreatDoor.W.Tr
