import Derived.Test.YtkjaoandifednaaGreatDoorKO
namespace Go.Proofs.YtkjaoandifednaaGreatDoor.W.Tr
set_option linter.unusedVariables false
set_option linter.unusedSimpArgs false
def EachT (S:Fo→Prop):Fo→Prop
 | .nil=>True
 | .cons n ks r=>S (.cons n ks .nil)∧EachT S r
theorem each_app {S:Fo→Prop}:∀ {f g:Fo},EachT S f→EachT S g→EachT S (f.app g)
 | .nil,g,_,h=>h
 | .cons n ks r,g,⟨h1,h2⟩,h=>⟨h1,each_app h2 h⟩
theorem each_mono {S T:Fo→Prop} (h:∀ x,S x→T x):∀ {f:Fo},EachT S f→EachT T f
 | .nil,_=>trivial
 | .cons n ks r,⟨h1,h2⟩=>⟨h _ h1,each_mono h h2⟩
theorem each_one {S:Fo→Prop} {x:Fo} (hl:x.len=1) (h:S x):EachT S x:=by
 cases x with
 | nil=>trivial
 | cons n ks r=>
  cases r with
  | nil=>exact ⟨h,trivial⟩
  | cons m k q=>simp [Fo.len] at hl
theorem app_nil:∀ f:Fo,f.app .nil=f
 | .nil=>rfl
 | .cons n ks r=>by simp [Fo.app,app_nil r]
theorem app_assoc:∀ f g h:Fo,(f.app g).app h=f.app (g.app h)
 | .nil,g,h=>rfl
 | .cons n ks r,g,h=>by simp [Fo.app,app_assoc r g h]
def commaT (L:List (List ByteArray)):List ByteArray:=L.flatMap (fun X=>⟨#[44]⟩ :: X)
def comJ:List (List ByteArray)→List ByteArray
 | []=>[]
 | X :: r=>X ++ commaT r
theorem fill_com1:∀ (r:List (List ByteArray)) (X:List ByteArray) (rest:List ByteArray),fillT (repT r.length [tK,⟨#[44]⟩] ++ [tK] ++ rest) (X :: r)=X ++ commaT r ++ fillT rest []
 | [],X,rest=>by
  show fillT (tK :: rest) [X]=_
  rw [fill_k isK_tK]
  simp [commaT]
 | Y :: r,X,rest=>by
  have e:repT (Y :: r).length [tK,⟨#[44]⟩]=tK :: ⟨#[44]⟩ :: repT r.length [tK,⟨#[44]⟩]:=by simp [repT,List.replicate_succ]
  rw [e,List.cons_append,List.cons_append,List.cons_append,List.cons_append,fill_k isK_tK,fill_w (isK_lit _ _),fill_com1 r Y rest]
  simp [commaT]
theorem fill_com (L:List (List ByteArray)) (rest:List ByteArray):fillT (comT L.length ++ rest) L=comJ L ++ fillT rest []:=by
 cases L with
 | nil=>rfl
 | cons X r=>
  have e:comT (X :: r).length=repT r.length [tK,⟨#[44]⟩] ++ [tK]:=by unfold comT;rw [if_neg (by simp)];simp
  rw [e,fill_com1]
  simp [comJ]
theorem tkl_cons (n:Nd) (ks r:Fo):tkl (tkN flP) (.cons n ks r)=tx (.cons n ks .nil) :: tkl (tkN flP) r:=by simp [tx,tkl]
def Itm (nt:Nt) (x:Fo):Prop:=(∃ s ts,tx x=s :: ts∧fixedT (tkOf s) ≠ k_rpar)∧∀ ys z L o,Lx (tx x) ys→Stq z→Og (fun m=>P m nt) ⟨ys ++ z :: L,o⟩ (Re x (z :: L) o)
theorem stq_com {z:Yd} (hz:z.c=0) (ht:z.t=tkOf ⟨#[44]⟩):Stq z:=stq_lit hz ht (by simp [lits]) (by decide) (by decide) (by decide) (by decide) (by decide) (by decide)
theorem com_head {r:Fo} {rs:List Yd} {y2:Yd} {L:List Yd} (h:Lx (commaT (tkl (tkN flP) r)) rs) (c2:y2.c=0) (t2:y2.t=tkOf ⟨#[41]⟩):∃ z M,rs ++ y2 :: L=z :: M∧Stq z:=by
 cases r with
 | nil=>
  have h:Lx [] rs:=h
  rw [h.nil,List.nil_append]
  exact ⟨y2,L,rfl,stq_rpar c2 t2⟩
 | cons n ks r=>
  have h:Lx (⟨#[44]⟩ :: (tx (.cons n ks .nil) ++ commaT (tkl (tkN flP) r))) rs:=by rw [tkl_cons] at h;simpa [commaT] using h
  obtain ⟨yc,r1,rfl,t1,c1,_⟩:=h.cons
  exact ⟨yc,_,rfl,stq_com c1 t1⟩
theorem ls_rest (p:Bool):∀ (l acc:Fo) (ys:List Yd) (y2:Yd) (L:List Yd) (o:Int),EachT (Itm (if p=true then .pm else .ex)) l→acc.len ≠ 0→Lx (commaT (tkl (tkN flP) l)) ys→y2.c=0→y2.t=tkOf ⟨#[41]⟩→Og (fun m=>P m (.lsT p acc)) ⟨ys ++ y2 :: L,o + 1⟩ (fun a s'=>bareF a=(bareF acc).app (bareF l)∧s'=⟨L,o⟩)
 | .nil,acc,ys,y2,L,o,_,_,hl,c2,t2=>by
  have h:Lx [] ys:=hl
  rw [h.nil,List.nil_append]
  have f2:=fx t2 (by simp [lits])
  refine Og.P ?_
  simp only [P]
  refine Og.lookB (y:=y2) rfl c2 (Og.pos f2 (Og.wantB (y:=y2) rfl c2 f2 ?_))
  rw [be_shut (.inl f2),Int.add_sub_cancel]
  exact Og.pure ⟨by rw [show bareF Fo.nil=Fo.nil from rfl,app_nil],rfl⟩
 | .cons n ks r,acc,ys,y2,L,o,⟨hi,hr⟩,hacc,hl,c2,t2=>by
  have h:Lx (⟨#[44]⟩ :: (tx (.cons n ks .nil) ++ commaT (tkl (tkN flP) r))) ys:=by rw [tkl_cons] at hl;simpa [commaT] using hl
  obtain ⟨yc,r1,rfl,t1,c1,h⟩:=h.cons
  obtain ⟨xs,rs,rfl,hxs,hrs⟩:=h.app
  have f1:=fx t1 (by simp [lits])
  obtain ⟨z,M,ez,sz⟩:=com_head (L:=L) hrs c2 t2
  refine Og.P ?_
  simp only [P]
  refine Og.lookB (y:=yc) rfl c1 (Og.neg (by rw [f1];decide) ?_)
  refine Og.bind (F:=fun _=>if acc.len=0 then Pm.pure yc else wantM k_com) (R:=fun _ s'=>s'=⟨xs ++ z :: M,o + 1⟩) (Og.neg (F:=fun _=>Pm.pure yc) hacc (Og.want (y:=yc) rfl c1 f1 ?_)) ?_
  ·rw [List.cons_append,be_no (by rw [f1];decide),List.append_assoc,ez]
  rintro _ s' rfl
  refine Og.bind (hi.2 xs z M (o + 1) hxs sz) ?_
  rintro x' s' ⟨hx',rfl⟩
  rw [← ez]
  refine (ls_rest p r (acc.app x') rs y2 L o hr (by rw [len_app];omega) hrs c2 t2).mono ?_
  rintro a s' ⟨h1,h2⟩
  refine ⟨?_,h2⟩
  rw [h1,bare_app,hx',app_assoc]
  rfl
theorem ls_all (p:Bool) (l:Fo) (ys:List Yd) (y2:Yd) (L:List Yd) (o:Int) (he:EachT (Itm (if p=true then .pm else .ex)) l) (hl:Lx (comJ (tkl (tkN flP) l)) ys) (c2:y2.c=0) (t2:y2.t=tkOf ⟨#[41]⟩):Og (fun m=>P m (.lsT p .nil)) ⟨ys ++ y2 :: L,o + 1⟩ (fun a s'=>bareF a=bareF l∧s'=⟨L,o⟩):=by
 have f2:=fx t2 (by simp [lits])
 cases l with
 | nil=>
  have h:Lx [] ys:=hl
  rw [h.nil,List.nil_append]
  refine Og.P ?_
  simp only [P]
  refine Og.lookB (y:=y2) rfl c2 (Og.pos f2 (Og.wantB (y:=y2) rfl c2 f2 ?_))
  rw [be_shut (.inl f2),Int.add_sub_cancel]
  exact Og.pure ⟨rfl,rfl⟩
 | cons n ks r=>
  obtain ⟨hi,hr⟩:=he
  rw [tkl_cons] at hl
  have h:Lx (tx (.cons n ks .nil) ++ commaT (tkl (tkN flP) r)) ys:=hl
  obtain ⟨xs,rs,rfl,hxs,hrs⟩:=h.app
  obtain ⟨z,M,ez,sz⟩:=com_head (L:=L) hrs c2 t2
  obtain ⟨s,ts,e0,hf⟩:=hi.1
  have hxs2:=hxs
  rw [e0] at hxs2
  obtain ⟨y0,xs',e1,t0,c0,_⟩:=hxs2.cons
  rw [List.append_assoc,ez]
  refine Og.P ?_
  simp only [P]
  refine Og.lookB (y:=y0) (L:=xs' ++ z :: M) (by rw [e1];rfl) c0 (Og.neg (by rw [t0];exact hf) ?_)
  refine Og.bind (F:=fun _=>if Fo.nil.len=0 then Pm.pure y0 else wantM k_com) (R:=fun _ s'=>s'=⟨xs ++ z :: M,o + 1⟩) (Og.pos (G:=fun _=>wantM k_com) rfl (Og.pure rfl)) ?_
  rintro _ s' rfl
  refine Og.bind (hi.2 xs z M (o + 1) hxs sz) ?_
  rintro x' s' ⟨hx',rfl⟩
  rw [← ez]
  have hl1:x'.len=1:=by rw [← bare_len,hx',bare_len];rfl
  refine (ls_rest p r (Fo.nil.app x') rs y2 L o hr (by rw [len_app];simp [Fo.len];omega) hrs c2 t2).mono ?_
  rintro a s' ⟨h1,h2⟩
  refine ⟨?_,h2⟩
  rw [h1,bare_app,hx']
  rfl
theorem itm_ex {x:Fo} (h:Ex x):Itm .ex x:=by
 refine ⟨?_,fun ys z L o hl hz=>E_ex h hl hz⟩
 obtain ⟨s,ts,e,hf⟩:=h.2.1
 exact ⟨s,ts,e,fo_ne hf (by decide) (by decide) (by decide) (by decide) (by decide)⟩
theorem com_mem {l:Fo} {b:ByteArray} (h:b ∈ comJ (tkl (tkN flP) l)):b=⟨#[44]⟩∨b ∈ tx l:=by
 have h2:∀ L:List (List ByteArray),b ∈ commaT L→b=⟨#[44]⟩∨b ∈ L.flatten:=by
  intro L h
  unfold commaT at h
  rw [List.mem_flatMap] at h
  obtain ⟨X,hX,hb⟩:=h
  rcases List.mem_cons.1 hb with rfl | hb
  ·exact .inl rfl
  ·exact .inr (List.mem_flatten.2 ⟨X,hX,hb⟩)
 unfold tx
 cases hL:tkl (tkN flP) l with
 | nil=>rw [hL] at h;cases h
 | cons X r=>
  rw [hL] at h
  rcases List.mem_append.1 h with h | h
  ·exact .inr (by simp [h])
  ·rcases h2 r h with h | h
   ·exact .inl h
   ·exact .inr (by rw [List.flatten_cons];exact List.mem_append_right _ h)
theorem each_col {l:Fo}:EachT Ex l→∀ b ∈ tx l,fixedT (tkOf b) ≠ k_col:=by
 induction l with
 | nil=>intro _ b hb;cases hb
 | cons n ks r _ ih=>
  rintro ⟨h1,h2⟩ b hb
  rw [tx_cons] at hb
  rcases List.mem_append.1 hb with hb | hb
  ·exact h1.2.2.1 b hb
  ·exact ih h2 b hb
theorem ex_call {n:Nd} {l:Fo} (hk:n.kind=23) (hn:NG n) (hN:NdK n) (he:EachT Ex l):Ex (.cons n l .nil):=by
 have hz:=ng_zero hn (by omega) (by omega)
 have ht:nameP n.text=true:=by
  have h:=hn.1
  rw [hk] at h
  exact h
 obtain ⟨g1,g2⟩:=name_gt ht hN.2.1
 have f0:fixedT (tkOf n.text)=⟨#[]⟩:=by rw [g2];exact fx_none (by show (1:Int) ≠ 2;decide) (by show (1:Int) ≠ 3;decide)
 have htx:tx (.cons n l .nil)=n.text :: ⟨#[40]⟩ :: (comJ (tkl (tkN flP) l) ++ [⟨#[41]⟩]):=by
  have hk2:tkN flP (n,l.len)=n.text :: ⟨#[40]⟩ :: (comT (tkl (tkN flP) l).length ++ [⟨#[41]⟩]):=by
   rw [tkl_len]
   obtain ⟨k,a,t,i,b⟩:=n
   simp only at hk
   subst hk
   simp [tkN,tokP]
  rw [tx_one,hk2,fill_w (k_name ht),fill_w (isK_lit _ _),fill_com,fill_w (isK_lit _ _)]
  rfl
 refine ⟨?_,⟨_,_,htx,.inl f0⟩,?_,rfl⟩
 ·intro ys z L o Q hl hzz hnp K
  rw [htx] at hl
  obtain ⟨y0,r1,rfl,t0,c0,hl⟩:=hl.cons
  obtain ⟨y1,r2,rfl,t1,c1,hl⟩:=hl.cons
  obtain ⟨xs,r3,rfl,hxs,hl⟩:=hl.app
  obtain ⟨y2,r4,rfl,t2,c2,hl⟩:=hl.cons
  obtain rfl:=hl.nil
  have k1:y0.t.kind=1:=by rw [t0,g2]
  have f1:=fx t1 (by simp [lits])
  have e:y0 :: y1 :: (xs ++ [y2]) ++ z :: L=y0 :: y1 :: (xs ++ y2 :: z :: L):=by simp
  rw [e]
  refine Og.P ?_
  simp only [P]
  refine Og.bind (R:=Re (.cons n l .nil) (z :: L) o) ?_ (fun a s' h=>by obtain ⟨h,rfl⟩:=h;exact K a h)
  refine Og.P ?_
  simp only [P]
  refine Og.lookB (y:=y0) rfl c0 ?_
  refine Og.neg (by omega) (Og.neg (by omega) (Og.neg (by omega) (Og.pos k1 ?_)))
  refine Og.P ?_
  simp only [P]
  refine Og.nameB (y:=y0) rfl c0 k1 ?_
  rw [be_no (by rw [t0,f0];decide)]
  refine Og.lookB (y:=y1) rfl c1 (Og.pos f1 ?_)
  refine Og.bind (R:=fun a s'=>bareF a=bareF l∧s'=⟨z :: L,o⟩) ?_ ?_
  ·refine Og.P ?_
   simp only [P]
   refine Og.wantB (y:=y1) rfl c1 f1 ?_
   rw [be_open (.inl f1)]
   exact ls_all false l xs y2 (z :: L) o (each_mono (fun x h=>itm_ex h) he) hxs c2 t2
  ·rintro a s' ⟨ha,rfl⟩
   exact Og.pure ⟨bare_one (bare_of hk hn (by rw [t0,g2]) (by rw [t0,g2,hz.1]) (by rw [t0,g2,hz.2])) ha,rfl⟩
 ·intro b hb
  rw [htx] at hb
  simp only [List.mem_cons,List.mem_append,List.not_mem_nil,or_false] at hb
  rcases hb with rfl | rfl | hb | rfl
  ·rw [f0];decide
  ·exact col_lit (by simp [lits]) (by decide)
  ·rcases com_mem hb with rfl | hb
   ·exact col_lit (by simp [lits]) (by decide)
   ·exact each_col he b hb
  ·exact col_lit (by simp [lits]) (by decide)
theorem Og.stB {β:Type} {s:Cs} {G:Cs→Nat→Pm β} {Q:β→Cs→Prop} (h:Og (G s) s Q):Og (fun m=>stM.bind fun a=>G a m) s Q:=
 Og.bind (F:=fun _=>stM) (R:=fun a s'=>a=s∧s'=s) (.inl ⟨s,s,⟨0,fun _ _=>rfl⟩,rfl,rfl⟩) fun a s' ⟨e1,e2⟩=>by subst e1 e2;exact h
def Sts (x:Fo):Prop:=x.len=1∧(∃ s ts,tx x=s :: ts∧fixedT (tkOf s) ≠ k_rcu∧fixedT (tkOf s) ≠ k_else)∧∀ ys z L o,Lx (tx x) ys→z.c=0→fixedT z.t ≠ k_else→Og (fun m=>P m .st) ⟨ys ++ z :: L,o⟩ (Re x (z :: L) o)
def Blk (x:Fo):Prop:=x.len=1∧(∃ ts,tx x=⟨#[123]⟩ :: ts)∧∀ ys L o,Lx (tx x) ys→Og (fun m=>P m .bl) ⟨ys ++ L,o⟩ (Re x L o)
def Sti (x:Fo):Prop:=x.len=1∧(∃ ts,tx x=⟨#[105,102]⟩ :: ts)∧∀ ys z L o,Lx (tx x) ys→z.c=0→fixedT z.t ≠ k_else→Og (fun m=>P m .iF) ⟨ys ++ z :: L,o⟩ (Re x (z :: L) o)
theorem stq_semi {z:Yd} (hz:z.c=0) (ht:z.t=tkOf ⟨#[59]⟩):Stq z:=stq_lit hz ht (by simp [lits]) (by decide) (by decide) (by decide) (by decide) (by decide) (by decide)
theorem stq_eqs {z:Yd} (hz:z.c=0) (ht:z.t=tkOf ⟨#[61]⟩):Stq z:=stq_lit hz ht (by simp [lits]) (by decide) (by decide) (by decide) (by decide) (by decide) (by decide)
theorem stq_lcu {z:Yd} (hz:z.c=0) (ht:z.t=tkOf ⟨#[123]⟩):Stq z:=stq_lit hz ht (by simp [lits]) (by decide) (by decide) (by decide) (by decide) (by decide) (by decide)
theorem stq_dots {z:Yd} (hz:z.c=0) (ht:z.t=tkOf ⟨#[46,46]⟩):Stq z:=stq_lit hz ht (by simp [lits]) (by decide) (by decide) (by decide) (by decide) (by decide) (by decide)
theorem Sts.head {r:Fo} {rs:List Yd} {y2:Yd} {L:List Yd} (he:EachT Sts r) (h:Lx (tx r) rs) (c2:y2.c=0) (n2:fixedT y2.t ≠ k_else):∃ z M,rs ++ y2 :: L=z :: M∧z.c=0∧fixedT z.t ≠ k_else:=by
 cases r with
 | nil=>
  have h:Lx [] rs:=h
  rw [h.nil]
  exact ⟨y2,L,rfl,c2,n2⟩
 | cons n ks r=>
  obtain ⟨⟨_,⟨s,ts,e,_,h2⟩,_⟩,_⟩:=he
  rw [tx_cons,e] at h
  obtain ⟨yc,r1,rfl,t1,c1,_⟩:=h.cons
  exact ⟨yc,_,rfl,c1,by rw [t1];exact h2⟩
theorem bl_rest:∀ (l acc:Fo) (ys:List Yd) (y2:Yd) (L:List Yd) (o:Int),EachT Sts l→Lx (tx l) ys→y2.c=0→y2.t=tkOf ⟨#[125]⟩→Og (fun m=>P m (.blT acc)) ⟨ys ++ y2 :: L,o + 1⟩ (fun a s'=>bareF a=(bareF acc).app (bareF l)∧s'=⟨L,o⟩)
 | .nil,acc,ys,y2,L,o,_,hl,c2,t2=>by
  have h:Lx [] ys:=hl
  rw [h.nil,List.nil_append]
  have f2:=fx t2 (by simp [lits])
  refine Og.P ?_
  simp only [P]
  refine Og.lookB (y:=y2) rfl c2 (Og.pos f2 (Og.wantB (y:=y2) rfl c2 f2 ?_))
  rw [be_shut (.inr (.inr f2)),Int.add_sub_cancel]
  exact Og.pure ⟨by rw [show bareF Fo.nil=Fo.nil from rfl,app_nil],rfl⟩
 | .cons n ks r,acc,ys,y2,L,o,⟨hi,hr⟩,hl,c2,t2=>by
  have f2:=fx t2 (by simp [lits])
  rw [tx_cons] at hl
  obtain ⟨xs,rs,rfl,hxs,hrs⟩:=hl.app
  obtain ⟨z,M,ez,cz,nz⟩:=Sts.head (L:=L) hr hrs c2 (by rw [f2];decide)
  obtain ⟨hl1,⟨s,ts,e0,hf,_⟩,hst⟩:=hi
  have hxs2:=hxs
  rw [e0] at hxs2
  obtain ⟨y0,xs',e1,t0,c0,_⟩:=hxs2.cons
  rw [List.append_assoc,ez]
  refine Og.P ?_
  simp only [P]
  refine Og.lookB (y:=y0) (L:=xs' ++ z :: M) (by rw [e1];rfl) c0 (Og.neg (by rw [t0];exact hf) ?_)
  refine Og.bind (hst xs z M (o + 1) hxs cz nz) ?_
  rintro x' s' ⟨hx',rfl⟩
  rw [← ez]
  refine (bl_rest r (acc.app x') rs y2 L o hr hrs c2 t2).mono ?_
  rintro a s' ⟨h1,h2⟩
  refine ⟨?_,h2⟩
  rw [h1,bare_app,hx',app_assoc]
  rfl
theorem fill_repR:∀ (L:List (List ByteArray)) (rest:List ByteArray),fillT (repT L.length [tK] ++ rest) L=L.flatten ++ fillT rest []
 | [],rest=>rfl
 | k :: L,rest=>by
  have e:repT (k :: L).length [tK]=tK :: repT L.length [tK]:=by simp [repT,List.replicate_succ]
  rw [e,List.cons_append,fill_k isK_tK,fill_repR L rest]
  simp
section
variable {n:Nd} {x y v c b d l:Fo}
theorem blk_mk (hk:n.kind=5) (hn:NG n) (he:EachT Sts l):Blk (.cons n l .nil):=by
 have htx:tx (.cons n l .nil)=⟨#[123]⟩ :: (tx l ++ [⟨#[125]⟩]):=by
  have hk2:tkN flP (n,l.len)=⟨#[123]⟩ :: (repT (tkl (tkN flP) l).length [tK] ++ [⟨#[125]⟩]):=by
   rw [tkl_len]
   obtain ⟨k,a,t,i,b⟩:=n
   simp only at hk
   subst hk
   simp [tkN,tokP]
  rw [tx_one,hk2,fill_w (isK_lit _ _),fill_repR,fill_w (isK_lit _ _)]
  rfl
 refine ⟨rfl,⟨_,htx⟩,?_⟩
 intro ys L o hl
 rw [htx] at hl
 obtain ⟨y1,r1,rfl,t1,c1,hl⟩:=hl.cons
 obtain ⟨xs,r2,rfl,hxs,hl⟩:=hl.app
 obtain ⟨y2,r3,rfl,t2,c2,hl⟩:=hl.cons
 obtain rfl:=hl.nil
 have f1:=fx t1 (by simp [lits])
 have e:y1 :: (xs ++ [y2]) ++ L=y1 :: (xs ++ y2 :: L):=by simp
 rw [e]
 refine Og.P ?_
 simp only [P]
 refine Og.wantB (y:=y1) rfl c1 f1 ?_
 rw [be_open (.inr (.inr f1))]
 refine Og.bind (bl_rest l .nil xs y2 L o he hxs c2 t2) ?_
 rintro a s' ⟨ha,rfl⟩
 refine Og.pure ⟨bare_one (bare_at hk hn (by decide) (by decide) (by decide)) ?_,rfl⟩
 rw [ha]
 rfl
theorem cond_blk (hc:Ex c) (hb:Blk b) {ys:List Yd} (hl:Lx (tx c ++ tx b) ys):∃ cs bs z M,ys=cs ++ bs∧Lx (tx c) cs∧Lx (tx b) bs∧bs=z :: M∧Stq z:=by
 obtain ⟨cs,bs,rfl,h1,h2⟩:=hl.app
 obtain ⟨ts,e⟩:=hb.2.1
 have h3:=h2
 rw [e] at h3
 obtain ⟨z,M,e2,t2,c2,_⟩:=h3.cons
 exact ⟨cs,bs,z,M,rfl,h1,h2,e2,stq_lcu c2 t2⟩
theorem E_cb (hc:Ex c) (hb:Blk b) {cs bs L:List Yd} {z:Yd} {M:List Yd} {o:Int} (h1:Lx (tx c) cs) (e:bs=z :: M) (hz:Stq z):Og (fun m=>P m .ex) ⟨cs ++ (bs ++ L),o⟩ (Re c (bs ++ L) o):=by
 subst e
 exact E_ex hc h1 hz
theorem tx_if2 (hk:n.kind=9) (hc:c.len=1) (hb:b.len=1):tx (.cons n (c.app b) .nil)=⟨#[105,102]⟩ :: (tx c ++ tx b):=by
 have hl:(c.app b).len=2:=by rw [len_app,hc,hb]
 have hk2:tkN flP (n,2)=[⟨#[105,102]⟩,tK,tK]:=by
  obtain ⟨k,a,t,i,b⟩:=n
  simp only at hk
  subst hk
  rfl
 rw [tx_one,hl,hk2,tkl_app,tkl_one hc,tkl_one hb,fill_w (isK_lit _ _)]
 show _ :: fillT [tK,tK] [tx c,tx b]=_
 rw [fill_k isK_tK,fill_k isK_tK]
 simp [fillT]
theorem tx_if3 (hk:n.kind=9) (hc:c.len=1) (hb:b.len=1) (hd:d.len=1):tx (.cons n ((c.app b).app d) .nil)=⟨#[105,102]⟩ :: (tx c ++ tx b ++ ⟨#[101,108,115,101]⟩ :: tx d):=by
 have hl:((c.app b).app d).len=3:=by rw [len_app,len_app,hc,hb,hd]
 have hk2:tkN flP (n,3)=[⟨#[105,102]⟩,tK,tK,⟨#[101,108,115,101]⟩,tK]:=by
  obtain ⟨k,a,t,i,b⟩:=n
  simp only at hk
  subst hk
  rfl
 rw [tx_one,hl,hk2,tkl_app,tkl_app,tkl_one hc,tkl_one hb,tkl_one hd,fill_w (isK_lit _ _)]
 show _ :: fillT [tK,tK,_,tK] [tx c,tx b,tx d]=_
 rw [fill_k isK_tK,fill_k isK_tK,fill_w (isK_lit _ _),fill_k isK_tK]
 simp [fillT]
theorem sti_2 (hk:n.kind=9) (hn:NG n) (hc:Ex c) (hb:Blk b):Sti (.cons n (c.app b) .nil):=by
 have htx:=tx_if2 (n:=n) hk hc.2.2.2 hb.1
 refine ⟨rfl,⟨_,htx⟩,?_⟩
 intro ys z L o hl hz hne
 rw [htx] at hl
 obtain ⟨y1,r1,rfl,t1,c1,hl⟩:=hl.cons
 obtain ⟨cs,bs,z1,M,rfl,h1,h2,e,sz⟩:=cond_blk hc hb hl
 have f1:=fx t1 (by simp [lits])
 rw [List.cons_append,List.append_assoc]
 refine Og.P ?_
 simp only [P]
 refine Og.wantB (y:=y1) rfl c1 f1 ?_
 rw [be_no (by rw [f1];decide)]
 refine Og.bind (E_cb hc hb h1 e sz) ?_
 rintro c' s' ⟨hc',rfl⟩
 refine Og.bind (hb.2.2 bs (z :: L) o h2) ?_
 rintro b' s' ⟨hb',rfl⟩
 refine Og.lookB (y:=z) rfl hz (Og.neg hne (Og.pure ⟨?_,rfl⟩))
 exact bare_two (bare_at hk hn (by decide) (by decide) (by decide)) hc' hb'
theorem sti_3 (hk:n.kind=9) (hn:NG n) (hc:Ex c) (hb:Blk b) (hd:Blk d∨Sti d):Sti (.cons n ((c.app b).app d) .nil):=by
 have hdl:d.len=1:=by rcases hd with h | h <;> exact h.1
 have htx:=tx_if3 (n:=n) hk hc.2.2.2 hb.1 hdl
 refine ⟨rfl,⟨_,htx⟩,?_⟩
 intro ys z L o hl hz hne
 rw [htx] at hl
 obtain ⟨y1,r1,rfl,t1,c1,hl⟩:=hl.cons
 obtain ⟨cb,r2,rfl,hcb,hl⟩:=hl.app
 obtain ⟨y2,ds,rfl,t2,c2,hds⟩:=hl.cons
 obtain ⟨cs,bs,z1,M,rfl,h1,h2,e,sz⟩:=cond_blk hc hb hcb
 have f1:=fx t1 (by simp [lits])
 have f2:=fx t2 (by simp [lits])
 have e2:y1 :: (cs ++ bs ++ y2 :: ds) ++ z :: L=y1 :: (cs ++ (bs ++ y2 :: (ds ++ z :: L))):=by simp
 rw [e2]
 refine Og.P ?_
 simp only [P]
 refine Og.wantB (y:=y1) rfl c1 f1 ?_
 rw [be_no (by rw [f1];decide)]
 refine Og.bind (E_cb hc hb h1 e sz) ?_
 rintro c' s' ⟨hc',rfl⟩
 refine Og.bind (hb.2.2 bs (y2 :: (ds ++ z :: L)) o h2) ?_
 rintro b' s' ⟨hb',rfl⟩
 refine Og.lookB (y:=y2) rfl c2 (Og.pos f2 (Og.takeB (y:=y2) rfl c2 ?_))
 rw [be_no (by rw [f2];decide)]
 have fin:∀ d',bareF d'=bareF d→bareF (Fo.one (atN 9 y1) ((c'.app b').app d'))=bareF (.cons n ((c.app b).app d) .nil):=fun d' h=>by
  refine bare_two (x:=c.app b) (bare_at hk hn (by decide) (by decide) (by decide)) ?_ h
  rw [bare_app,bare_app,hc',hb']
 rcases hd with hd | hd
 ·obtain ⟨ts,e3⟩:=hd.2.1
  have h3:=hds
  rw [e3] at h3
  obtain ⟨y3,r4,e4,t3,c3,_⟩:=h3.cons
  have f3:=fx t3 (by simp [lits])
  refine Og.lookB (y:=y3) (L:=r4 ++ z :: L) (by rw [e4];rfl) c3 ?_
  rw [if_neg (by rw [f3];decide)]
  refine Og.bind (hd.2.2 ds (z :: L) o hds) ?_
  rintro d' s' ⟨hd',rfl⟩
  exact Og.pure ⟨fin d' hd',rfl⟩
 ·obtain ⟨ts,e3⟩:=hd.2.1
  have h3:=hds
  rw [e3] at h3
  obtain ⟨y3,r4,e4,t3,c3,_⟩:=h3.cons
  have f3:=fx t3 (by simp [lits])
  refine Og.lookB (y:=y3) (L:=r4 ++ z :: L) (by rw [e4];rfl) c3 ?_
  rw [if_pos f3]
  refine Og.bind (hd.2.2 ds z L o hds hz hne) ?_
  rintro d' s' ⟨hd',rfl⟩
  exact Og.pure ⟨fin d' hd',rfl⟩
theorem sts_if (h:Sti x):Sts x:=by
 obtain ⟨h1,⟨ts,e⟩,h3⟩:=h
 have tk:=lit_tk (b:=⟨#[105,102]⟩) (by simp [lits])
 refine ⟨h1,⟨_,ts,e,by rw [tk.1];decide,by rw [tk.1];decide⟩,?_⟩
 intro ys z L o hl hz hne
 have hp:=h3 ys z L o hl hz hne
 rw [e] at hl
 obtain ⟨y1,r1,rfl,t1,c1,_⟩:=hl.cons
 have f1:=fx t1 (by simp [lits])
 refine Og.P ?_
 simp only [P]
 refine Og.lookB (y:=y1) rfl c1 (Og.neg (by rw [f1];decide) (Og.pos f1 hp))
end
theorem nm_tok {t:ByteArray} (h:nameP t=true) (hs:t.size≤6000) {y:Yd} (hy:y.t=tkOf t):y.t.kind=1∧fixedT y.t=⟨#[]⟩∧y.t.text=t∧y.t.int=0∧y.t.bits=0:=by
 obtain ⟨_,g2⟩:=name_gt h hs
 rw [hy,g2]
 exact ⟨rfl,fx_none (by show (1:Int) ≠ 2;decide) (by show (1:Int) ≠ 3;decide),rfl,rfl,rfl⟩
theorem st_skip {s:Cs} {y:Yd} {L:List Yd} {Q:Fo→Cs→Prop} (hr:s.r=y :: L) (hc:y.c=0) (h1:fixedT y.t ≠ k_let) (h2:fixedT y.t ≠ k_if) (h3:fixedT y.t ≠ k_while) (h4:fixedT y.t ≠ k_for) (h5:fixedT y.t ≠ k_break) (h6:fixedT y.t ≠ k_continue) (h7:fixedT y.t ≠ k_return) (h8:fixedT y.t ≠ k_out) (h:Og (fun m=>if y.t.kind=1∧colon s=true then P m .lb else P m .pl) s Q):Og (fun m=>P m .st) s Q:=by
 refine Og.P ?_
 simp only [P]
 refine Og.lookB hr hc ?_
 refine Og.neg h1 (Og.neg h2 (Og.neg h3 (Og.neg h4 (Og.neg h5 (Og.neg h6 (Og.neg h7 (Og.neg h8 ?_)))))))
 exact Og.stB h
theorem lx_mem {ts:List ByteArray} {ys:List Yd} (h:Lx ts ys) {y:Yd} (hy:y ∈ ys):∃ s ∈ ts,y.t=tkOf s:=by
 have:y.t ∈ ys.map (·.t):=List.mem_map.2 ⟨y,hy,rfl⟩
 rw [h.1] at this
 obtain ⟨s,h1,h2⟩:=List.mem_map.1 this
 exact ⟨s,h1,h2.symm⟩
theorem colon_no {x:Fo} {ys:List Yd} {z:Yd} {L:List Yd} {o:Int} (h:Ex x) (hl:Lx (tx x) ys) (nz:fixedT z.t ≠ k_col):colon ⟨ys ++ z :: L,o⟩=false:=by
 obtain ⟨y0,ys',rfl,_⟩:=first h hl
 unfold colon
 cases ys' with
 | nil=>simp [nz]
 | cons y1 r=>
  obtain ⟨s,hs,e⟩:=lx_mem hl (y:=y1) (by simp)
  have:=h.2.2.1 s hs
  rw [← e] at this
  simp [this]
theorem st_ex {x:Fo} {ys:List Yd} {z:Yd} {L:List Yd} {o:Int} {Q:Fo→Cs→Prop} (h:Ex x) (hl:Lx (tx x) ys) (nz:fixedT z.t ≠ k_col) (hp:Og (fun m=>P m .pl) ⟨ys ++ z :: L,o⟩ Q):Og (fun m=>P m .st) ⟨ys ++ z :: L,o⟩ Q:=by
 have hcol:=colon_no (L:=L) (o:=o) h hl nz
 obtain ⟨y0,ys',rfl,hc,s,ht,hf⟩:=first h hl
 have k:∀ k:ByteArray,k ≠ ⟨#[]⟩→k ≠ k_lpar→k ≠ k_true→k ≠ k_false→k ≠ k_nil→fixedT y0.t ≠ k:=fun k a1 a2 a3 a4 a5=>by rw [ht];exact fo_ne hf a1 a2 a3 a4 a5
 refine st_skip (y:=y0) (L:=ys' ++ z :: L) rfl hc (k _ (by decide) (by decide) (by decide) (by decide) (by decide)) (k _ (by decide) (by decide) (by decide) (by decide) (by decide)) (k _ (by decide) (by decide) (by decide) (by decide) (by decide)) (k _ (by decide) (by decide) (by decide) (by decide) (by decide)) (k _ (by decide) (by decide) (by decide) (by decide) (by decide)) (k _ (by decide) (by decide) (by decide) (by decide) (by decide)) (k _ (by decide) (by decide) (by decide) (by decide) (by decide)) (k _ (by decide) (by decide) (by decide) (by decide) (by decide)) ?_
 exact Og.neg (by rw [hcol];simp) hp
theorem form_one {x x':Fo} {n:Nd} {ks:Fo} (e:x=.cons n ks .nil) (h:bareF x'=bareF x):∃ m k,x'=.cons m k .nil∧bareN m=bareN n∧bareF k=bareF ks:=by
 subst e
 cases x' with
 | nil=>cases h
 | cons m k r=>
  simp only [bareF] at h
  injection h with h1 h2 h3
  cases r with
  | nil=>exact ⟨m,k,rfl,h1,h2⟩
  | cons a b c=>cases h3
theorem len_form {x:Fo} (h:x.len=1):∃ n ks,x=.cons n ks .nil:=by
 cases x with
 | nil=>cases h
 | cons n ks r=>
  cases r with
  | nil=>exact ⟨n,ks,rfl⟩
  | cons m k q=>simp [Fo.len] at h
theorem bareN_kind {m n:Nd} (h:bareN m=bareN n):m.kind=n.kind∧m.text=n.text∧m.int=n.int∧m.bits=n.bits:=by
 have h1:=congrArg Nd.kind h
 have h2:=congrArg Nd.text h
 have h3:=congrArg Nd.int h
 have h4:=congrArg Nd.bits h
 exact ⟨h1,h2,h3,h4⟩
section
variable {n:Nd} {x y v c b f t:Fo}
theorem fo_sts {s:ByteArray} (h:FO s):fixedT (tkOf s) ≠ k_rcu∧fixedT (tkOf s) ≠ k_else:=⟨fo_ne h (by decide) (by decide) (by decide) (by decide) (by decide),fo_ne h (by decide) (by decide) (by decide) (by decide) (by decide)⟩
theorem lit_sts {s:ByteArray} (hs:s ∈ lits) (h1:s ≠ k_rcu) (h2:s ≠ k_else):fixedT (tkOf s) ≠ k_rcu∧fixedT (tkOf s) ≠ k_else:=by rw [(lit_tk hs).1];exact ⟨h1,h2⟩
theorem sts_expr (hk:n.kind=17) (hn:NG n) (hx:Ex x):Sts (.cons n x .nil):=by
 have htx:tx (.cons n x .nil)=tx x ++ [⟨#[59]⟩]:=by
  have hk2:tkN flP (n,1)=[tK,⟨#[59]⟩]:=by
   obtain ⟨k,a,t,i,b⟩:=n
   simp only at hk
   subst hk
   rfl
  rw [tx_one,hx.2.2.2,hk2,tkl_one hx.2.2.2,fill_k isK_tK,fill_w (isK_lit _ _)]
  rfl
 obtain ⟨s,ts,e,hf⟩:=hx.2.1
 refine ⟨rfl,⟨s,ts ++ [⟨#[59]⟩],by rw [htx,e];rfl,fo_sts hf⟩,?_⟩
 intro ys z L o hl hz hne
 rw [htx] at hl
 obtain ⟨xs,r1,rfl,hxs,hl⟩:=hl.app
 obtain ⟨y2,r2,rfl,t2,c2,hl⟩:=hl.cons
 obtain rfl:=hl.nil
 have f2:=fx t2 (by simp [lits])
 rw [List.append_assoc]
 refine st_ex hx hxs (by rw [f2];decide) ?_
 refine Og.P ?_
 simp only [P]
 refine Og.bind (E_ex hx hxs (stq_semi c2 t2)) ?_
 rintro x' s' ⟨hx',rfl⟩
 refine Og.lookB (y:=y2) rfl c2 ?_
 obtain ⟨n0,ks,e0⟩:=len_form hx.2.2.2
 obtain ⟨m,k,rfl,hm,hk'⟩:=form_one e0 hx'
 dsimp only
 refine Og.neg (by rw [f2];rintro ⟨h,_⟩;exact absurd h (by decide)) (Og.neg (by rw [f2];rintro ⟨h,_⟩;exact absurd h (by decide)) ?_)
 refine Og.wantB (y:=y2) rfl c2 f2 ?_
 show Og _ (behind y2 ⟨y2 :: z :: L,o⟩) _
 rw [be_no (by rw [f2];decide)]
 refine Og.pure ⟨bare_one ?_ hx',rfl⟩
 have e1:=ng_zero hn (by omega) (by omega)
 have e2:=ng_empty hn (by rw [hk];rfl)
 unfold bareN
 rw [hk,e1.1,e1.2,e2]
theorem sts_assign (hk:n.kind=7) (hn:NG n) (hN:NdK n) (hx:Ex x):Sts (.cons n x .nil):=by
 have ht:nameP n.text=true:=by
  have h:=hn.1
  rw [hk] at h
  exact h
 have hz:=ng_zero hn (by omega) (by omega)
 have he:Ex (.cons ⟨25,0,n.text,0,0⟩ .nil .nil):=ex_name rfl ⟨ht,by kernel_rfl⟩ ⟨by show (1:Int)≤25∧(25:Int)≤31;decide,hN.2.1,⟨by simp,by simp⟩,by simp,by simp⟩
 have hte:tx (.cons ⟨25,0,n.text,0,0⟩ .nil .nil)=[n.text]:=leaf_tx (k_name ht) rfl
 have htx:tx (.cons n x .nil)=[n.text] ++ ⟨#[61]⟩ :: (tx x ++ [⟨#[59]⟩]):=by
  have hk2:tkN flP (n,1)=[n.text,⟨#[61]⟩,tK,⟨#[59]⟩]:=by
   obtain ⟨k,a,t,i,b⟩:=n
   simp only at hk
   subst hk
   rfl
  rw [tx_one,hx.2.2.2,hk2,tkl_one hx.2.2.2,fill_w (k_name ht),fill_w (isK_lit _ _),fill_k isK_tK,fill_w (isK_lit _ _)]
  rfl
 obtain ⟨s,ts,e,hf⟩:=he.2.1
 rw [hte] at e
 injection e with e1 e2
 refine ⟨rfl,⟨n.text,_,htx,by rw [e1];exact fo_sts hf⟩,?_⟩
 intro ys z L o hl hzz hne
 rw [htx] at hl
 obtain ⟨ns,r1,rfl,hns,hl⟩:=hl.app
 obtain ⟨y1,r2,rfl,t1,c1,hl⟩:=hl.cons
 obtain ⟨xs,r3,rfl,hxs,hl⟩:=hl.app
 obtain ⟨y2,r4,rfl,t2,c2,hl⟩:=hl.cons
 obtain rfl:=hl.nil
 have f1:=fx t1 (by simp [lits])
 have f2:=fx t2 (by simp [lits])
 rw [← hte] at hns
 have e3:ns ++ y1 :: (xs ++ [y2]) ++ z :: L=ns ++ y1 :: (xs ++ y2 :: z :: L):=by simp
 rw [e3]
 refine st_ex he hns (by rw [f1];decide) ?_
 refine Og.P ?_
 simp only [P]
 refine Og.bind (E_ex he hns (stq_eqs c1 t1)) ?_
 rintro x' s' ⟨hx',rfl⟩
 refine Og.lookB (y:=y1) rfl c1 ?_
 obtain ⟨m,k,rfl,hm,hk'⟩:=form_one rfl hx'
 have hmk:=bareN_kind hm
 dsimp only
 refine Og.pos ⟨f1,hmk.1⟩ ?_
 refine Og.P ?_
 simp only [P]
 refine Og.wantB (y:=y1) rfl c1 f1 ?_
 rw [be_no (by rw [f1];decide)]
 refine Og.bind (E_ex hx hxs (stq_semi c2 t2)) ?_
 rintro v' s' ⟨hv',rfl⟩
 refine Og.wantB (y:=y2) rfl c2 f2 ?_
 rw [be_no (by rw [f2];decide)]
 refine Og.pure ⟨?_,rfl⟩
 have:k=.nil:=by cases k with | nil=>rfl | cons a b c=>cases hk'
 subst this
 refine bare_one ?_ hv'
 unfold bareN
 simp only
 rw [hmk.2.1,hmk.2.2.1,hmk.2.2.2,hk,hz.1,hz.2]
theorem sts_store (hk:n.kind=8) (hn:NG n) (hx:Ex x) (hy:Ex y) (hv:Ex v):Sts (.cons n ((x.app y).app v) .nil):=by
 have hz:=ng_zero hn (by omega) (by omega)
 have hem:=ng_empty hn (by rw [hk];rfl)
 obtain ⟨he,hte⟩:=ex_index (n:=⟨24,0,⟨#[]⟩,0,0⟩) rfl ⟨by kernel_rfl,by kernel_rfl⟩ hx hy
 have htx:tx (.cons n ((x.app y).app v) .nil)=(tx x ++ ⟨#[91]⟩ :: (tx y ++ [⟨#[93]⟩])) ++ ⟨#[61]⟩ :: (tx v ++ [⟨#[59]⟩]):=by
  have hl:((x.app y).app v).len=3:=by rw [len_app,len_app,hx.2.2.2,hy.2.2.2,hv.2.2.2]
  have hk2:tkN flP (n,3)=[tK,⟨#[91]⟩,tK,⟨#[93]⟩,⟨#[61]⟩,tK,⟨#[59]⟩]:=by
   obtain ⟨k,a,t,i,b⟩:=n
   simp only at hk
   subst hk
   rfl
  rw [tx_one,hl,hk2,tkl_app,tkl_app,tkl_one hx.2.2.2,tkl_one hy.2.2.2,tkl_one hv.2.2.2]
  show fillT _ [tx x,tx y,tx v]=_
  rw [fill_k isK_tK,fill_w (isK_lit _ _),fill_k isK_tK,fill_w (isK_lit _ _),fill_w (isK_lit _ _),fill_k isK_tK,fill_w (isK_lit _ _)]
  simp [fillT]
 obtain ⟨s,ts,e,hf⟩:=hx.2.1
 refine ⟨rfl,⟨s,_,by rw [htx,e];rfl,fo_sts hf⟩,?_⟩
 intro ys z L o hl hzz hne
 rw [htx,← hte] at hl
 obtain ⟨ns,r1,rfl,hns,hl⟩:=hl.app
 obtain ⟨y1,r2,rfl,t1,c1,hl⟩:=hl.cons
 obtain ⟨xs,r3,rfl,hxs,hl⟩:=hl.app
 obtain ⟨y2,r4,rfl,t2,c2,hl⟩:=hl.cons
 obtain rfl:=hl.nil
 have f1:=fx t1 (by simp [lits])
 have f2:=fx t2 (by simp [lits])
 have e3:ns ++ y1 :: (xs ++ [y2]) ++ z :: L=ns ++ y1 :: (xs ++ y2 :: z :: L):=by simp
 rw [e3]
 refine st_ex he hns (by rw [f1];decide) ?_
 refine Og.P ?_
 simp only [P]
 refine Og.bind (E_ex he hns (stq_eqs c1 t1)) ?_
 rintro x' s' ⟨hx',rfl⟩
 refine Og.lookB (y:=y1) rfl c1 ?_
 obtain ⟨m,k,rfl,hm,hk'⟩:=form_one rfl hx'
 have hmk:=bareN_kind hm
 dsimp only
 refine Og.neg (by rintro ⟨_,h⟩;have:=hmk.1;rw [h] at this;exact absurd this (by decide)) (Og.pos ⟨f1,hmk.1⟩ ?_)
 refine Og.P ?_
 simp only [P]
 refine Og.wantB (y:=y1) rfl c1 f1 ?_
 rw [be_no (by rw [f1];decide)]
 refine Og.bind (E_ex hv hxs (stq_semi c2 t2)) ?_
 rintro v' s' ⟨hv',rfl⟩
 refine Og.wantB (y:=y2) rfl c2 f2 ?_
 rw [be_no (by rw [f2];decide)]
 refine Og.pure ⟨bare_two (x:=x.app y) ?_ hk' hv',rfl⟩
 unfold bareN
 simp only
 rw [hmk.2.1,hmk.2.2.1,hmk.2.2.2,hk,hz.1,hz.2,hem]
theorem sts_let (hk:n.kind=6) (hn:NG n) (hN:NdK n) (hx:Ex x):Sts (.cons n x .nil):=by
 have ht:nameP n.text=true:=by
  have h:=hn.1
  rw [hk] at h
  exact h
 have hz:=ng_zero hn (by omega) (by omega)
 have htx:tx (.cons n x .nil)=⟨#[108,101,116]⟩ :: n.text :: ⟨#[61]⟩ :: (tx x ++ [⟨#[59]⟩]):=by
  have hk2:tkN flP (n,1)=[⟨#[108,101,116]⟩,n.text,⟨#[61]⟩,tK,⟨#[59]⟩]:=by
   obtain ⟨k,a,t,i,b⟩:=n
   simp only at hk
   subst hk
   rfl
  rw [tx_one,hx.2.2.2,hk2,tkl_one hx.2.2.2,fill_w (isK_lit _ _),fill_w (k_name ht),fill_w (isK_lit _ _),fill_k isK_tK,fill_w (isK_lit _ _)]
  rfl
 refine ⟨rfl,⟨_,_,htx,lit_sts (by simp [lits]) (by decide) (by decide)⟩,?_⟩
 intro ys z L o hl hzz hne
 rw [htx] at hl
 obtain ⟨y0,r0,rfl,t0,c0,hl⟩:=hl.cons
 obtain ⟨y1,r1,rfl,t1,c1,hl⟩:=hl.cons
 obtain ⟨y2,r2,rfl,t2,c2,hl⟩:=hl.cons
 obtain ⟨xs,r3,rfl,hxs,hl⟩:=hl.app
 obtain ⟨y3,r4,rfl,t3,c3,hl⟩:=hl.cons
 obtain rfl:=hl.nil
 have f0:=fx t0 (by simp [lits])
 obtain ⟨k1,f1,x1,x2,x3⟩:=nm_tok ht hN.2.1 t1
 have f2:=fx t2 (by simp [lits])
 have f3:=fx t3 (by simp [lits])
 have e3:y0 :: y1 :: y2 :: (xs ++ [y3]) ++ z :: L=y0 :: y1 :: y2 :: (xs ++ y3 :: z :: L):=by simp
 rw [e3]
 refine Og.P ?_
 simp only [P]
 refine Og.lookB (y:=y0) rfl c0 (Og.pos f0 ?_)
 refine Og.P ?_
 simp only [P]
 refine Og.wantB (y:=y0) rfl c0 f0 ?_
 rw [be_no (by rw [f0];decide)]
 refine Og.nameB (y:=y1) rfl c1 k1 ?_
 rw [be_no (by rw [f1];decide)]
 refine Og.wantB (y:=y2) rfl c2 f2 ?_
 rw [be_no (by rw [f2];decide)]
 refine Og.bind (E_ex hx hxs (stq_semi c3 t3)) ?_
 rintro v' s' ⟨hv',rfl⟩
 refine Og.wantB (y:=y3) rfl c3 f3 ?_
 rw [be_no (by rw [f3];decide)]
 exact Og.pure ⟨bare_one (bare_of hk hn x1 (by rw [x2,hz.1]) (by rw [x3,hz.2])) hv',rfl⟩
theorem sts_out (hk:n.kind=16) (hn:NG n) (hx:Ex x):Sts (.cons n x .nil):=by
 have htx:tx (.cons n x .nil)=⟨#[111,117,116]⟩ :: (tx x ++ [⟨#[59]⟩]):=by
  have hk2:tkN flP (n,1)=[⟨#[111,117,116]⟩,tK,⟨#[59]⟩]:=by
   obtain ⟨k,a,t,i,b⟩:=n
   simp only at hk
   subst hk
   rfl
  rw [tx_one,hx.2.2.2,hk2,tkl_one hx.2.2.2,fill_w (isK_lit _ _),fill_k isK_tK,fill_w (isK_lit _ _)]
  rfl
 refine ⟨rfl,⟨_,_,htx,lit_sts (by simp [lits]) (by decide) (by decide)⟩,?_⟩
 intro ys z L o hl hzz hne
 rw [htx] at hl
 obtain ⟨y0,r0,rfl,t0,c0,hl⟩:=hl.cons
 obtain ⟨xs,r3,rfl,hxs,hl⟩:=hl.app
 obtain ⟨y3,r4,rfl,t3,c3,hl⟩:=hl.cons
 obtain rfl:=hl.nil
 have f0:=fx t0 (by simp [lits])
 have f3:=fx t3 (by simp [lits])
 have e3:y0 :: (xs ++ [y3]) ++ z :: L=y0 :: (xs ++ y3 :: z :: L):=by simp
 rw [e3]
 refine Og.P ?_
 simp only [P]
 refine Og.lookB (y:=y0) rfl c0 ?_
 refine Og.neg (by rw [f0];decide) (Og.neg (by rw [f0];decide) (Og.neg (by rw [f0];decide) (Og.neg (by rw [f0];decide) (Og.neg (by rw [f0];decide) (Og.neg (by rw [f0];decide) (Og.neg (by rw [f0];decide) (Og.pos f0 ?_)))))))
 refine Og.P ?_
 simp only [P]
 refine Og.wantB (y:=y0) rfl c0 f0 ?_
 rw [be_no (by rw [f0];decide)]
 refine Og.bind (E_ex hx hxs (stq_semi c3 t3)) ?_
 rintro v' s' ⟨hv',rfl⟩
 refine Og.wantB (y:=y3) rfl c3 f3 ?_
 rw [be_no (by rw [f3];decide)]
 exact Og.pure ⟨bare_one (bare_at hk hn (by decide) (by decide) (by decide)) hv',rfl⟩
theorem sts_ret (hk:n.kind=15) (hn:NG n) (hx:Ex x):Sts (.cons n x .nil):=by
 have htx:tx (.cons n x .nil)=⟨#[114,101,116,117,114,110]⟩ :: (tx x ++ [⟨#[59]⟩]):=by
  have hk2:tkN flP (n,1)=[⟨#[114,101,116,117,114,110]⟩,tK,⟨#[59]⟩]:=by
   obtain ⟨k,a,t,i,b⟩:=n
   simp only at hk
   subst hk
   rfl
  rw [tx_one,hx.2.2.2,hk2,tkl_one hx.2.2.2,fill_w (isK_lit _ _),fill_k isK_tK,fill_w (isK_lit _ _)]
  rfl
 refine ⟨rfl,⟨_,_,htx,lit_sts (by simp [lits]) (by decide) (by decide)⟩,?_⟩
 intro ys z L o hl hzz hne
 rw [htx] at hl
 obtain ⟨y0,r0,rfl,t0,c0,hl⟩:=hl.cons
 obtain ⟨xs,r3,rfl,hxs,hl⟩:=hl.app
 obtain ⟨y3,r4,rfl,t3,c3,hl⟩:=hl.cons
 obtain rfl:=hl.nil
 have f0:=fx t0 (by simp [lits])
 have f3:=fx t3 (by simp [lits])
 have e3:y0 :: (xs ++ [y3]) ++ z :: L=y0 :: (xs ++ y3 :: z :: L):=by simp
 rw [e3]
 have hE:=E_ex (L:=z :: L) (o:=o) hx hxs (stq_semi c3 t3)
 obtain ⟨y1,xs',rfl,c1,s,t1,hf⟩:=first hx hxs
 refine Og.P ?_
 simp only [P]
 refine Og.lookB (y:=y0) rfl c0 ?_
 refine Og.neg (by rw [f0];decide) (Og.neg (by rw [f0];decide) (Og.neg (by rw [f0];decide) (Og.neg (by rw [f0];decide) (Og.neg (by rw [f0];decide) (Og.neg (by rw [f0];decide) (Og.pos f0 ?_))))))
 refine Og.P ?_
 simp only [P]
 refine Og.wantB (y:=y0) rfl c0 f0 ?_
 rw [be_no (by rw [f0];decide)]
 refine Og.lookB (y:=y1) rfl c1 (Og.neg (by rw [t1];exact fo_ne hf (by decide) (by decide) (by decide) (by decide) (by decide)) ?_)
 refine Og.bind hE ?_
 rintro v' s' ⟨hv',rfl⟩
 refine Og.wantB (y:=y3) rfl c3 f3 ?_
 rw [be_no (by rw [f3];decide)]
 exact Og.pure ⟨bare_one (bare_at hk hn (by decide) (by decide) (by decide)) hv',rfl⟩
theorem sts_ret0 (hk:n.kind=15) (hn:NG n):Sts (.cons n .nil .nil):=by
 have htx:tx (.cons n .nil .nil)=[⟨#[114,101,116,117,114,110]⟩,⟨#[59]⟩]:=by
  have hk2:tkN flP (n,0)=[⟨#[114,101,116,117,114,110]⟩,⟨#[59]⟩]:=by
   obtain ⟨k,a,t,i,b⟩:=n
   simp only at hk
   subst hk
   rfl
  rw [tx_one,show Fo.nil.len=0 from rfl,hk2,fill_w (isK_lit _ _),fill_w (isK_lit _ _)]
  rfl
 refine ⟨rfl,⟨_,_,htx,lit_sts (by simp [lits]) (by decide) (by decide)⟩,?_⟩
 intro ys z L o hl hzz hne
 rw [htx] at hl
 obtain ⟨y0,r0,rfl,t0,c0,hl⟩:=hl.cons
 obtain ⟨y3,r4,rfl,t3,c3,hl⟩:=hl.cons
 obtain rfl:=hl.nil
 have f0:=fx t0 (by simp [lits])
 have f3:=fx t3 (by simp [lits])
 refine Og.P ?_
 simp only [P]
 refine Og.lookB (y:=y0) rfl c0 ?_
 refine Og.neg (by rw [f0];decide) (Og.neg (by rw [f0];decide) (Og.neg (by rw [f0];decide) (Og.neg (by rw [f0];decide) (Og.neg (by rw [f0];decide) (Og.neg (by rw [f0];decide) (Og.pos f0 ?_))))))
 refine Og.P ?_
 simp only [P]
 refine Og.wantB (y:=y0) rfl c0 f0 ?_
 rw [List.cons_append,be_no (by rw [f0];decide)]
 refine Og.lookB (y:=y3) rfl c3 (Og.pos f3 (Og.wantB (y:=y3) rfl c3 f3 ?_))
 rw [List.cons_append,be_no (by rw [f3];decide)]
 exact Og.pure ⟨bare_one (bare_at hk hn (by decide) (by decide) (by decide)) rfl,rfl⟩
theorem sts_jump (hk:n.kind=13∨n.kind=14) (hn:NG n) (hN:NdK n):Sts (.cons n .nil .nil):=by
 have hz:=ng_zero hn (by omega) (by omega)
 have ht:n.text=⟨#[]⟩∨nameP n.text=true:=by
  have h:=hn.1
  have h:textP 2 n.text=true:=by rcases hk with e | e <;> rw [e] at h <;> exact h
  unfold textP at h
  simp only [Int.reduceEq,if_false,if_true,Bool.or_eq_true] at h
  rcases h with h | h
  ·have e:=lst n.text []
   rw [h] at e
   exact .inl (of_decide_eq_true e)
  ·exact .inr h
 obtain ⟨w,hw,hwl,hwne,hP⟩:∃ w:ByteArray,(tkN flP (n,0)=if n.text.toList == [] then [w,⟨#[59]⟩] else [w,n.text,⟨#[59]⟩])∧w ∈ lits∧(w ≠ k_rcu∧w ≠ k_else∧isK w=false∧noBr w=true)∧∀ (y0:Yd) (M:List Yd) (o:Int) (Q:Fo→Cs→Prop),y0.c=0→fixedT y0.t=w→Og (fun m=>P m (.jm n.kind)) ⟨y0 :: M,o⟩ Q→Og (fun m=>P m .st) ⟨y0 :: M,o⟩ Q:=by
  rcases hk with hk | hk
  ·refine ⟨k_break,?_,by simp [lits],⟨by decide,by decide,isK_lit _ _,by decide⟩,?_⟩
   ·obtain ⟨k,a,t,i,b⟩:=n
    simp only at hk
    subst hk
    rfl
   ·intro y0 M o Q c0 f0 h
    rw [hk] at h
    refine Og.P ?_
    simp only [P]
    refine Og.lookB (y:=y0) rfl c0 ?_
    exact Og.neg (by rw [f0];decide) (Og.neg (by rw [f0];decide) (Og.neg (by rw [f0];decide) (Og.neg (by rw [f0];decide) (Og.pos f0 h))))
  ·refine ⟨k_continue,?_,by simp [lits],⟨by decide,by decide,isK_lit _ _,by decide⟩,?_⟩
   ·obtain ⟨k,a,t,i,b⟩:=n
    simp only at hk
    subst hk
    rfl
   ·intro y0 M o Q c0 f0 h
    rw [hk] at h
    refine Og.P ?_
    simp only [P]
    refine Og.lookB (y:=y0) rfl c0 ?_
    exact Og.neg (by rw [f0];decide) (Og.neg (by rw [f0];decide) (Og.neg (by rw [f0];decide) (Og.neg (by rw [f0];decide) (Og.neg (by rw [f0];decide) (Og.pos f0 h)))))
 have e25:n.kind ≠ 26∧n.kind ≠ 27:=by omega
 rcases ht with ht | ht
 ·have htx:tx (.cons n .nil .nil)=[w,⟨#[59]⟩]:=by
   rw [tx_one,show Fo.nil.len=0 from rfl,hw,ht,if_pos (by kernel_rfl),fill_w hwne.2.2.1,fill_w (isK_lit _ _)]
   rfl
  refine ⟨rfl,⟨_,_,htx,lit_sts hwl hwne.1 hwne.2.1⟩,?_⟩
  intro ys z L o hl hzz hne
  rw [htx] at hl
  obtain ⟨y0,r0,rfl,t0,c0,hl⟩:=hl.cons
  obtain ⟨y3,r4,rfl,t3,c3,hl⟩:=hl.cons
  obtain rfl:=hl.nil
  have f0:=fx t0 hwl
  have f3:=fx t3 (by simp [lits])
  refine hP y0 _ o _ c0 f0 ?_
  refine Og.P ?_
  simp only [P]
  refine Og.takeB (y:=y0) rfl c0 ?_
  rw [be_no (by rw [f0];exact hwne.2.2.2)]
  refine Og.lookB (y:=y3) rfl c3 (Og.pos f3 (Og.wantB (y:=y3) rfl c3 f3 ?_))
  show Og _ (behind y3 ⟨y3 :: z :: L,o⟩) _
  rw [be_no (by rw [f3];decide)]
  refine Og.pure ⟨bare_one ?_ rfl,rfl⟩
  unfold bareN atN
  rw [hz.1,hz.2,ht]
 ·have htx:tx (.cons n .nil .nil)=[w,n.text,⟨#[59]⟩]:=by
   have hf:(n.text.toList == [])=false:=k_name ht
   rw [tx_one,show Fo.nil.len=0 from rfl,hw,hf,if_neg (by decide),fill_w hwne.2.2.1,fill_w (k_name ht),fill_w (isK_lit _ _)]
   rfl
  refine ⟨rfl,⟨_,_,htx,lit_sts hwl hwne.1 hwne.2.1⟩,?_⟩
  intro ys z L o hl hzz hne
  rw [htx] at hl
  obtain ⟨y0,r0,rfl,t0,c0,hl⟩:=hl.cons
  obtain ⟨y1,r1,rfl,t1,c1,hl⟩:=hl.cons
  obtain ⟨y3,r4,rfl,t3,c3,hl⟩:=hl.cons
  obtain rfl:=hl.nil
  have f0:=fx t0 hwl
  obtain ⟨k1,f1,x1,x2,x3⟩:=nm_tok ht hN.2.1 t1
  have f3:=fx t3 (by simp [lits])
  refine hP y0 _ o _ c0 f0 ?_
  refine Og.P ?_
  simp only [P]
  refine Og.takeB (y:=y0) rfl c0 ?_
  rw [be_no (by rw [f0];exact hwne.2.2.2)]
  refine Og.lookB (y:=y1) rfl c1 (Og.neg (by rw [f1];decide) (Og.nameB (y:=y1) rfl c1 k1 ?_))
  show Og _ (behind y1 ⟨y1 :: y3 :: z :: L,o⟩) _
  rw [be_no (by rw [f1];decide)]
  refine Og.wantB (y:=y3) rfl c3 f3 ?_
  rw [be_no (by rw [f3];decide)]
  refine Og.pure ⟨bare_one ?_ rfl,rfl⟩
  unfold bareN
  rw [hz.1,hz.2]
  simp only
  rw [x1]
end
end Go.Proofs.YtkjaoandifednaaGreatDoor.W.Tr
