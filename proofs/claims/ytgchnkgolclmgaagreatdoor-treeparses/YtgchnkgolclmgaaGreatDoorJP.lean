import Derived.Test.YtgchnkgolclmgaaGreatDoorJO
import Derived.Laws.EntriesVeiled
import Derived.Scope
import Derived.Laws.ResultCell
open List renaming length_drop → aY
open Array renaming replicate_succ → dQ, replicate_zero → eU, getElem?_eq_some_iff → gI
open Nat renaming le_refl → aL, zero_le → ay, le_add_right → bY
open Go.World renaming putObj_heap_other → bO, alloc_heap_new → dI
open Go.RowKit.Below renaming refl → aH
open Go.Proofs.Tryz
set_option maxRecDepth 1000000
set_option maxHeartbeats 8000000
namespace Go.Proofs.YtgchnkgolclmgaaGreatDoor.W
open Go.ChangeShapes Go.WideShapes Go.RowKit Go.Shelf
set_option linter.unusedVariables false
def yv(t:Tk)(a c fa:Int):Array Value:=#[tv t a,.agg #[.int .i64 c,.int .i64 fa]]
def qO:Tk:=⟨7,⟨#[]⟩,0,0⟩
def jM:Nat->List UInt8->Nat->List (Array Value)
 | 0,_,_=>[]
 | f+1,l,a=>if l.length<=a then [yv qO a 0 0] else
  if (bF (l.drop a)).size=0 then [yv gX 0 60 a] else
  if (bF (l.drop a)).code≠0 then [yv gX 0 (bF (l.drop a)).code a] else
  if (bF (l.drop a)).t.kind≠0 then yv (bF (l.drop a)).t a 0 0::jM f l (a+(bF (l.drop a)).size) else jM f l (a+(bF (l.drop a)).size)
def oJ(l:List UInt8):List (Array Value):=if 65536<l.length then [yv gX 0 2 0] else jM (l.length+1) l 0
section
variable {f a:Nat} {l:List UInt8} {p:Pc}
theorem KM(h:l.length<=a):jM (f+1) l a=[yv qO a 0 0]:=by unfold jM;exact if_pos h
theorem Gy(h:¬l.length<=a)(hp:bF (l.drop a)=p)(h1:p.size=0):jM (f+1) l a=[yv gX 0 60 a]:=by
 unfold jM;rw[if_neg h,hp,if_pos h1]
theorem KN(h:¬l.length<=a)(hp:bF (l.drop a)=p)(h1:¬p.size=0)(h2:¬p.code=0):jM (f+1) l a=[yv gX 0 p.code a]:=by
 unfold jM;rw[if_neg h,hp,if_neg h1,if_pos h2]
theorem KJ(h:¬l.length<=a)(hp:bF (l.drop a)=p)(h1:¬p.size=0)(h2:p.code=0)(h3:¬p.t.kind=0):jM (f+1) l a=yv p.t a 0 0::jM f l (a+p.size):=by
 conv=>lhs;unfold jM
 rw[if_neg h,hp,if_neg h1,if_neg (by rw[h2];decide),if_pos h3]
theorem KL(h:¬l.length<=a)(hp:bF (l.drop a)=p)(h1:¬p.size=0)(h2:p.code=0)(h3:p.t.kind=0):jM (f+1) l a=jM f l (a+p.size):=by
 conv=>lhs;unfold jM
 rw[if_neg h,hp,if_neg h1,if_neg (by rw[h2];decide),if_neg (by rw[h3];decide)]
end
theorem LZ(l:List UInt8):(¬ (sK l).size=0->bF l=sK l)/\((sK l).size=0->(¬ (nameP l).size=0->bF l=nameP l)/\((nameP l).size=0->(¬ (fC l).size=0->bF l=fC l)/\((fC l).size=0->(¬ (fJ l).size=0->bF l=fJ l)/\((fJ l).size=0->(¬ (dh l).size=0->bF l=dh l)/\((dh l).size=0->bF l=kP l))))):=by
 unfold bF jK
 refine⟨λh=>if_neg h,λh0=>⟨λh=>?_,λh1=>⟨λh=>?_,λh2=>⟨λh=>?_,λh3=>⟨λh=>?_,λh4=>?_⟩⟩⟩⟩⟩
 ·rw[if_pos h0,if_neg h]
 ·rw[if_pos h0,if_pos h1,if_neg h]
 ·rw[if_pos h0,if_pos h1,if_pos h2,if_neg h]
 ·rw[if_pos h0,if_pos h1,if_pos h2,if_pos h3,if_neg h]
 ·rw[if_pos h0,if_pos h1,if_pos h2,if_pos h3,if_pos h4]
theorem rdT:∃d,prog.underlying 81=some d/\(match d with | .struct _ | .array _ _=>true|_=>false)=true:=by
 have h:(prog.underlying 81).map (λd=>match d with | .struct _ | .array _ _=>true|_=>false)=some true:=by kernel_rfl
 cases hu:prog.underlying 81 with
 | none=>rw[hu] at h;cases h
 | some d=>rw[hu] at h;injection h with h;exact⟨d,rfl,h⟩
theorem aAN:(prog.info? 81).map (·.size)=some 6:=by kernel_rfl
theorem Rb{fn:Func}{p:Tmp}(h:fn.results = #[.cell p 81])(tmps:Array Value)(w:World)(gb:Nat)(v0 v1 v2 v3 v4 v5:Value)(fr:Nat × Nat)(hp:tmps.getD p undef=.pointer (some ⟨gb,0,none⟩))(hg:w.heap[gb]? = some (.cells #[v0,v1,v2,v3,v4,v5] 81 fr)):(results fn tmps).run prog w=.ok (.agg #[v0,v1,v2,v3,v4,v5]) w:=by
 obtain⟨d,hu,hd⟩:=rdT
 exact results_cell_row h tmps w gb _ _ fr d hp hg hu (by cases d <;> first|rfl|exact hd) (by rw[aAN];rfl)
theorem II(w:World):Calls prog 45 #[] w λe w'=>e=.returned (.agg #[.func (.func 75) #[] #[],.func (.func 76) #[] #[],.func (.func 77) #[] #[],.func (.func 78) #[] #[],.func (.func 79) #[] #[],.func (.func 80) #[] #[]])/\Below w.heap.size w w':=by
 go_enter func45,ntmps45
 go_wp2
 refine bodyPost_ret (Rb rfl _ _ w.heap.size _ _ _ _ _ _ (0,0) rfl (dI w _)) rfl ?_
 exact⟨rfl,(aH _ w).alloc (aL _) _⟩
theorem Bh(s:ByteArray)(w:World):Calls prog 27 #[.string s] w λe w'=>e=.returned (.func (.func 44) #[] #[.pointer (some ⟨w.heap.size,0,none⟩)])/\w'=w.alloc (.cells #[.string s] 9):=by
 go_enter func27,ntmps27
 go_wp2
 go_ret
 exact⟨rfl,rfl⟩
theorem uT{α:Type}{l:List α}{i:Nat}{x:α}{r:List α}(h:l.drop i=x::r):∃hi:i<l.length,l[i]=x/\l.drop (i+1)=r:=by
 have hi:i<l.length:=by
  rcases Nat.lt_or_ge i l.length with c|c
  ·exact c
  ·rw[List.drop_eq_nil_of_le c] at h;cases h
 rw[List.drop_eq_getElem_cons hi] at h
 injection h with h1 h2
 exact⟨hi,h1,h2⟩
theorem ER(f:Nat):∀ (r:List UInt8) (n:Nat) (acc:List UInt8),(bq f r n acc).size<=n+r.length:=by
 induction f with
 | zero=>intro r n acc;exact bY _ _
 | succ f ih=>
  intro r n acc
  cases r with
  | nil=>rw[jP];exact bY _ _
  | cons c r=>
   by_cases h:c=34
   ·rw[iR _ _ _ _ _ (Nat.succ_pos _) h];show n+1<=n+(r.length+1);omega
   ·by_cases h2:(bZ (c::r)).2=0
    ·rw[jQ _ _ _ _ _ (Nat.succ_pos _) h h2];exact bY _ _
    ·rw[kM _ _ _ _ _ h h2]
     refine Nat.le_trans (ih _ _ _) ?_
     have:=(yN (c::r)).2
     rw[aY]
     omega
theorem jY(l:List UInt8):(bF l).size<=l.length:=by
 have hg:(sK l).size<=l.length:=by
  show xA l<=_
  unfold xA
  split
  ·exact gZ _ _
  ·exact gZ _ _
 have hn:(nameP l).size<=l.length:=by
  unfold nameP
  split
  ·exact ay _
  ·split
   ·exact gZ _ _
   ·exact gZ _ _
 have hd:(fC l).size<=l.length:=by
  unfold fC
  split
  ·rename_i c
   have h2:2<=l.length:=by
    have:=congrArg List.length c
    rw[List.length_take] at this
    have e2:wu.length=2:=rfl
    omega
   split
   ·exact(Ap l h2).2
   ·exact(Ap l h2).2
  ·exact ay _
 have hw:(fJ l).size<=l.length:=by
  unfold fJ
  split
  ·exact ay _
  ·split
   ·exact gZ _ _
   ·exact gZ _ _
 have hq:(dh l).size<=l.length:=by
  unfold dh
  split
  ·rename_i c
   have h1:1<=l.length:=by
    cases l with
    | nil=>cases c
    | cons a r=>simp
   rcases mo (bq l.length (l.drop 1) 1 []) with e|⟨_,e⟩
   ·rw[e]
    refine Nat.le_trans (ER _ _ _ _) ?_
    rw[aY]
    omega
   ·rw[e]
    exact h1
  ·exact ay _
 have hm:(kP l).size<=l.length:=by
  unfold kP
  split
  ·rename_i m e
   have:=List.find?_some e
   have h2:l.take m.length=m:=by simpa using this
   show m.length<=_
   rw[<- h2,List.length_take]
   omega
  ·exact ay _
 unfold bF jK
 repeat (first|assumption|(split <;> first|assumption|skip))
theorem below_two'{A B C:World}(h:Below A.heap.size A B)(g:Below B.heap.size B C):Below A.heap.size A C:=h.trans (g.mono h.size)
def sW(gf:Nat)(lb:Array Value)(vals:List (Array Value))(G:World->Prop):Prop:=
 ∀ (n l:Nat) (J:Nat->(Nat->Prop)->World->Prop) (X:World->Prop),1<=n->(∀i D W,J i D W->G W/\∀k,D k->k<W.heap.size)->(∀i D W W',J i D W->Below W.heap.size W W'->J i D W') ->
  (∀i (hi:i<vals.length) D W,J i D W->YieldAt Fence.wide (n-1) prog l vals[i] W λe W'=>(e=.returned (.bool true)/\(∃D',J (i+1) D' W')/\(∀k,k<W.heap.size->¬D k->W'.heap[k]? = W.heap[k]?))\/(e=.returned (.bool false)/\X W')) ->
  ∀D W,J 0 D W->CallsIn Fence.wide n prog gf (#[.func (.yield l) #[] #[]]++lb) W λe W'=>(∃v,e=.returned v)/\((∃D',J vals.length D' W')\/X W')
theorem nW{α:Type}{l:List α}{i:Nat}{x:α}(h:l.drop i=[x]):∃hi:i<l.length,l[i]=x/\i+1=l.length:=by
 obtain⟨hi,h1,h2⟩:=uT h
 refine⟨hi,h1,?_⟩
 have:=List.drop_eq_nil_iff.1 h2
 omega
theorem aAM(w:World):(Instr.index 81 (.agg #[.func (.func 75) #[] #[],.func (.func 76) #[] #[],.func (.func 77) #[] #[],.func (.func 78) #[] #[],.func (.func 79) #[] #[],.func (.func 80) #[] #[]]) (.int .i64 0)).run prog w=.ok (.func (.func 75) #[] #[]) w:=by kernel_rfl
theorem aAL(w:World):(Instr.index 81 (.agg #[.func (.func 75) #[] #[],.func (.func 76) #[] #[],.func (.func 77) #[] #[],.func (.func 78) #[] #[],.func (.func 79) #[] #[],.func (.func 80) #[] #[]]) (.int .i64 1)).run prog w=.ok (.func (.func 76) #[] #[]) w:=by kernel_rfl
theorem aAK(w:World):(Instr.index 81 (.agg #[.func (.func 75) #[] #[],.func (.func 76) #[] #[],.func (.func 77) #[] #[],.func (.func 78) #[] #[],.func (.func 79) #[] #[],.func (.func 80) #[] #[]]) (.int .i64 2)).run prog w=.ok (.func (.func 77) #[] #[]) w:=by kernel_rfl
theorem aAJ(w:World):(Instr.index 81 (.agg #[.func (.func 75) #[] #[],.func (.func 76) #[] #[],.func (.func 77) #[] #[],.func (.func 78) #[] #[],.func (.func 79) #[] #[],.func (.func 80) #[] #[]]) (.int .i64 3)).run prog w=.ok (.func (.func 78) #[] #[]) w:=by kernel_rfl
theorem aAI(w:World):(Instr.index 81 (.agg #[.func (.func 75) #[] #[],.func (.func 76) #[] #[],.func (.func 77) #[] #[],.func (.func 78) #[] #[],.func (.func 79) #[] #[],.func (.func 80) #[] #[]]) (.int .i64 4)).run prog w=.ok (.func (.func 79) #[] #[]) w:=by kernel_rfl
theorem aAH(w:World):(Instr.index 81 (.agg #[.func (.func 75) #[] #[],.func (.func 76) #[] #[],.func (.func 77) #[] #[],.func (.func 78) #[] #[],.func (.func 79) #[] #[],.func (.func 80) #[] #[]]) (.int .i64 5)).run prog w=.ok (.func (.func 80) #[] #[]) w:=by kernel_rfl
theorem Nv(s:ByteArray)(hs:s.size<=65536)(sb:Nat):sW 44 #[.pointer (some ⟨sb,0,none⟩)] (oJ s.data.toList) (λW=>W.cell? ⟨sb,0,none⟩=some (.string s)/\Tabs W/\MarksIn W):=by
 intro n l J X hn hL hB hY D0 W h0
 have ev:oJ s.data.toList=jM (s.size+1) s.data.toList 0:=by
  unfold oJ
  rw[if_neg (by rw[size_list];omega),size_list]
 show CallsIn Fence.wide n prog 44 #[.func (.yield l) #[] #[],.pointer (some ⟨sb,0,none⟩)] W λe W'=>(∃v,e=.returned v)/\((∃D',J (oJ s.data.toList).length D' W')\/X W')
 obtain⟨⟨g0,-,-⟩,-⟩:=hL 0 D0 W h0
 have b1:¬ (s.size:Int)>65536:=by omega
 have HS:=hid hs
 have V0:=hid (show (oJ s.data.toList).drop 0=jM (s.size+1) s.data.toList 0 from ev)
 clear ev hs
 generalize oJ s.data.toList=vals at *
 have HL:=hid hL
 have U5:=hid hB
 have HY:=hid hY
 have H0:=hid h0
 refine callsIn_of_wp func44 rfl trivial ?_ rfl
 simp only[ntmps44,List.size_toArray,List.length_cons,List.length_nil,Nat.reduceAdd,Nat.reduceSub,dQ,eU,List.push_toArray,List.append_toArray,List.nil_append,List.cons_append]
 clear hY hL hB h0
 refine wpIn_wide.2 ?_
 refine wp_scope_straight ?_
 go_wp2_with (refine wp_label ?_)
 go_loopw [3,5,6] (λat' _ _ wr=>∃ (a f i:Nat) (D:Nat->Prop),at'=.int .i64 a/\a<=s.size/\s.size<a+f/\vals.drop i=jM f s.data.toList a/\J i D wr) (λat' _ _ _=>s.size-(intOf at').toNat)
 case atStart=>exact⟨0,s.size+1,0,D0,rfl,ay _,by omega,V0.out,H0.out⟩
 case round=>
  obtain⟨a,f,i,D,rfl,ha,hf,hv,hJ⟩:=hrel
  clear V0 H0 g0
  have gr:=(HL.out i D wr hJ).1.1
  by_cases c:a<s.size
  ·have c':(a:Int)<s.size:=by omega
   have SC:Hid (∀w,Below wr.heap.size wr w->w.cell? ⟨sb,0,none⟩=some (.string s)):=hid (λw h=>(HL.out i D w (U5.out i D wr w hJ h)).1.1)
   obtain⟨t,ht⟩:∃t,s.extract a s.size=t:=⟨_,rfl⟩
   have tl:t.data.toList=s.data.toList.drop a:=by rw[<- ht,iW]
   have tz:t.size=s.size-a:=by rw[<- size_list t,tl,aY,size_list]
   have t0:0<t.size:=by omega
   have t1:t.size<=1000000:=by have:=HS.out;omega
   have tm:t.size<=maxLen:=Nat.le_trans t1 (by decide)
   have TT:∀w,Below wr.heap.size wr w->Tabs w/\MarksIn w:=λw h=>(HL.out i D w (U5.out i D wr w hJ h)).1.2
   obtain⟨p0,hp0⟩:∃p,sK (s.data.toList.drop a)=p:=⟨_,rfl⟩
   obtain⟨p1,hp1⟩:∃p,nameP (s.data.toList.drop a)=p:=⟨_,rfl⟩
   obtain⟨p2,hp2⟩:∃p,fC (s.data.toList.drop a)=p:=⟨_,rfl⟩
   obtain⟨p3,hp3⟩:∃p,fJ (s.data.toList.drop a)=p:=⟨_,rfl⟩
   obtain⟨p4,hp4⟩:∃p,dh (s.data.toList.drop a)=p:=⟨_,rfl⟩
   obtain⟨p5,hp5⟩:∃p,kP (s.data.toList.drop a)=p:=⟨_,rfl⟩
   obtain⟨q0,q1⟩:=LZ (s.data.toList.drop a)
   rw[hp0,hp1,hp2,hp3,hp4,hp5] at q1
   rw[hp0] at q0
   have EP0:=hid q0
   have EP1:=hid (λz0=>(q1 z0).1)
   have EP2:=hid (λz0 z1=>((q1 z0).2 z1).1)
   have EP3:=hid (λz0 z1 z2=>(((q1 z0).2 z1).2 z2).1)
   have EP4:=hid (λz0 z1 z2 z3=>((((q1 z0).2 z1).2 z2).2 z3).1)
   have EP5:=hid (λz0 z1 z2 z3 z4=>((((q1 z0).2 z1).2 z2).2 z3).2 z4)
   have C0:Hid (∀w,Below wr.heap.size wr w->Calls prog 75 #[.string t] w λe w'=>e=.returned (pv p0)/\Below w.heap.size w w'):=hid (λw h=>by have:=Vt t t0 tm w;rw[tl,hp0] at this;exact this)
   have C1:Hid (∀w,Below wr.heap.size wr w->Calls prog 76 #[.string t] w λe w'=>e=.returned (pv p1)/\Below w.heap.size w w'):=hid (λw h=>by have:=SI t t0 t1 w (TT w h).1;rw[tl,hp1] at this;exact this)
   have C2:Hid (∀w,Below wr.heap.size wr w->Calls prog 77 #[.string t] w λe w'=>e=.returned (pv p2)/\Below w.heap.size w w'):=hid (λw h=>by have:=Cr t t1 w (TT w h).1;rw[tl,hp2] at this;exact this)
   have C3:Hid (∀w,Below wr.heap.size wr w->Calls prog 78 #[.string t] w λe w'=>e=.returned (pv p3)/\Below w.heap.size w w'):=hid (λw h=>by have:=Nq t tm w;rw[tl,hp3] at this;exact this)
   have C4:Hid (∀w,Below wr.heap.size wr w->Calls prog 79 #[.string t] w λe w'=>e=.returned (pv p4)/\Below w.heap.size w w'):=hid (λw h=>by have:=LA t t0 t1 w;rw[tl,hp4] at this;exact this)
   have C5:Hid (∀w,Below wr.heap.size wr w->Calls prog 80 #[.string t] w λe w'=>e=.returned (pv p5)/\Below w.heap.size w w'):=hid (λw h=>by have:=SN t t1 w (TT w h).2;rw[tl,hp5] at this;exact this)
   have A2:=hid (And.intro ha (And.intro hf (And.intro hv hJ)))
   have crd:=II wr
   clear tl tz t0 t1 tm TT q0 q1 hp0 hp1 hp2 hp3 hp4 hp5 ha hf hv hJ
   go_upto_region 5 with(go_at_call 45;(with_reducible refine crd.mono ?_);rintro e Wn ⟨rfl,hBr⟩;clear crd)
   have UN:=SC.out Wn hBr
   have HW:=hid hBr
   clear hBr gr
   have rx0:=aAM
   have rx1:=aAL
   have rx2:=aAK
   have rx3:=aAJ
   have rx4:=aAI
   have rx5:=aAH
   refine wp_loop_rounds 7 ?_
   rw[rounds_succ]
   have cc:=C0.out _ HW.out
   unfold pv at cc
   by_cases z0:p0.size=0
   rotate_left 1
   have ep:=hid (show bF (s.data.toList.drop a)=p0 from EP0.out z0)
   have hz:=hid (show p0.size<=s.size-a by have:=jY (s.data.toList.drop a);rw[ep.out,aY,size_list] at this;exact this)
   generalize hpp:p0=pc at *
   have zc:=z0
   clear hpp z0
   rotate_right 1
   focus
    go_wp2_with (go_at_call 75;(with_reducible refine cc.mono ?_);rintro e Wc ⟨rfl,pJ⟩;(have sc:=SC.out Wc (below_two' HW.out pJ));(have HC:=hid (below_two' HW.out pJ));clear cc pJ)
    have bn:Below wr.heap.size wr (Wc.alloc (.cells #[.int .i64 p0.t.kind,.int .i64 0,.string p0.t.text,.int .i64 p0.t.int,.int .u64 p0.t.bits,.int .i64 0,.int .i64 p0.code] 84)):=below_two' HC.out ((aH _ Wc).alloc (aL _) _)
    have UN:=SC.out _ bn
    replace HW:=hid bn
    clear sc bn HC
    generalize Wc.alloc (.cells #[.int .i64 p0.t.kind,.int .i64 0,.string p0.t.text,.int .i64 p0.t.int,.int .u64 p0.t.bits,.int .i64 0,.int .i64 p0.code] 84)=Wn at *
   rw[rounds_succ]
   have cc:=C1.out _ HW.out
   unfold pv at cc
   by_cases z1:p1.size=0
   rotate_left 1
   have ep:=hid (show bF (s.data.toList.drop a)=p1 from EP1.out z0 z1)
   have hz:=hid (show p1.size<=s.size-a by have:=jY (s.data.toList.drop a);rw[ep.out,aY,size_list] at this;exact this)
   generalize hpp:p1=pc at *
   have zc:=z1
   clear hpp z1
   rotate_right 1
   focus
    go_wp2_with (go_at_call 76;(with_reducible refine cc.mono ?_);rintro e Wc ⟨rfl,pJ⟩;(have sc:=SC.out Wc (below_two' HW.out pJ));(have HC:=hid (below_two' HW.out pJ));clear cc pJ)
    have bn:Below wr.heap.size wr (Wc.alloc (.cells #[.int .i64 p1.t.kind,.int .i64 0,.string p1.t.text,.int .i64 p1.t.int,.int .u64 p1.t.bits,.int .i64 0,.int .i64 p1.code] 84)):=below_two' HC.out ((aH _ Wc).alloc (aL _) _)
    have UN:=SC.out _ bn
    replace HW:=hid bn
    clear sc bn HC
    generalize Wc.alloc (.cells #[.int .i64 p1.t.kind,.int .i64 0,.string p1.t.text,.int .i64 p1.t.int,.int .u64 p1.t.bits,.int .i64 0,.int .i64 p1.code] 84)=Wn at *
   rw[rounds_succ]
   have cc:=C2.out _ HW.out
   unfold pv at cc
   by_cases z2:p2.size=0
   rotate_left 1
   have ep:=hid (show bF (s.data.toList.drop a)=p2 from EP2.out z0 z1 z2)
   have hz:=hid (show p2.size<=s.size-a by have:=jY (s.data.toList.drop a);rw[ep.out,aY,size_list] at this;exact this)
   generalize hpp:p2=pc at *
   have zc:=z2
   clear hpp z2
   rotate_right 1
   focus
    go_wp2_with (go_at_call 77;(with_reducible refine cc.mono ?_);rintro e Wc ⟨rfl,pJ⟩;(have sc:=SC.out Wc (below_two' HW.out pJ));(have HC:=hid (below_two' HW.out pJ));clear cc pJ)
    have bn:Below wr.heap.size wr (Wc.alloc (.cells #[.int .i64 p2.t.kind,.int .i64 0,.string p2.t.text,.int .i64 p2.t.int,.int .u64 p2.t.bits,.int .i64 0,.int .i64 p2.code] 84)):=below_two' HC.out ((aH _ Wc).alloc (aL _) _)
    have UN:=SC.out _ bn
    replace HW:=hid bn
    clear sc bn HC
    generalize Wc.alloc (.cells #[.int .i64 p2.t.kind,.int .i64 0,.string p2.t.text,.int .i64 p2.t.int,.int .u64 p2.t.bits,.int .i64 0,.int .i64 p2.code] 84)=Wn at *
   rw[rounds_succ]
   have cc:=C3.out _ HW.out
   unfold pv at cc
   by_cases z3:p3.size=0
   rotate_left 1
   have ep:=hid (show bF (s.data.toList.drop a)=p3 from EP3.out z0 z1 z2 z3)
   have hz:=hid (show p3.size<=s.size-a by have:=jY (s.data.toList.drop a);rw[ep.out,aY,size_list] at this;exact this)
   generalize hpp:p3=pc at *
   have zc:=z3
   clear hpp z3
   rotate_right 1
   focus
    go_wp2_with (go_at_call 78;(with_reducible refine cc.mono ?_);rintro e Wc ⟨rfl,pJ⟩;(have sc:=SC.out Wc (below_two' HW.out pJ));(have HC:=hid (below_two' HW.out pJ));clear cc pJ)
    have bn:Below wr.heap.size wr (Wc.alloc (.cells #[.int .i64 p3.t.kind,.int .i64 0,.string p3.t.text,.int .i64 p3.t.int,.int .u64 p3.t.bits,.int .i64 0,.int .i64 p3.code] 84)):=below_two' HC.out ((aH _ Wc).alloc (aL _) _)
    have UN:=SC.out _ bn
    replace HW:=hid bn
    clear sc bn HC
    generalize Wc.alloc (.cells #[.int .i64 p3.t.kind,.int .i64 0,.string p3.t.text,.int .i64 p3.t.int,.int .u64 p3.t.bits,.int .i64 0,.int .i64 p3.code] 84)=Wn at *
   rw[rounds_succ]
   have cc:=C4.out _ HW.out
   unfold pv at cc
   by_cases z4:p4.size=0
   rotate_left 1
   have ep:=hid (show bF (s.data.toList.drop a)=p4 from EP4.out z0 z1 z2 z3 z4)
   have hz:=hid (show p4.size<=s.size-a by have:=jY (s.data.toList.drop a);rw[ep.out,aY,size_list] at this;exact this)
   generalize hpp:p4=pc at *
   have zc:=z4
   clear hpp z4
   rotate_right 1
   focus
    go_wp2_with (go_at_call 79;(with_reducible refine cc.mono ?_);rintro e Wc ⟨rfl,pJ⟩;(have sc:=SC.out Wc (below_two' HW.out pJ));(have HC:=hid (below_two' HW.out pJ));clear cc pJ)
    have bn:Below wr.heap.size wr (Wc.alloc (.cells #[.int .i64 p4.t.kind,.int .i64 0,.string p4.t.text,.int .i64 p4.t.int,.int .u64 p4.t.bits,.int .i64 0,.int .i64 p4.code] 84)):=below_two' HC.out ((aH _ Wc).alloc (aL _) _)
    have UN:=SC.out _ bn
    replace HW:=hid bn
    clear sc bn HC
    generalize Wc.alloc (.cells #[.int .i64 p4.t.kind,.int .i64 0,.string p4.t.text,.int .i64 p4.t.int,.int .u64 p4.t.bits,.int .i64 0,.int .i64 p4.code] 84)=Wn at *
   rw[rounds_succ]
   have cc:=C5.out _ HW.out
   unfold pv at cc
   by_cases z5:p5.size=0
   rotate_left 1
   have ep:=hid (show bF (s.data.toList.drop a)=p5 from EP5.out z0 z1 z2 z3 z4 )
   have hz:=hid (show p5.size<=s.size-a by have:=jY (s.data.toList.drop a);rw[ep.out,aY,size_list] at this;exact this)
   generalize hpp:p5=pc at *
   have zc:=z5
   clear hpp z5
   rotate_right 1
   focus
    go_wp2_with (go_at_call 80;(with_reducible refine cc.mono ?_);rintro e Wc ⟨rfl,pJ⟩;(have sc:=SC.out Wc (below_two' HW.out pJ));(have HC:=hid (below_two' HW.out pJ));clear cc pJ)
    have bn:Below wr.heap.size wr (Wc.alloc (.cells #[.int .i64 p5.t.kind,.int .i64 0,.string p5.t.text,.int .i64 p5.t.int,.int .u64 p5.t.bits,.int .i64 0,.int .i64 p5.code] 84)):=below_two' HC.out ((aH _ Wc).alloc (aL _) _)
    have UN:=SC.out _ bn
    replace HW:=hid bn
    clear sc bn HC
    generalize Wc.alloc (.cells #[.int .i64 p5.t.kind,.int .i64 0,.string p5.t.text,.int .i64 p5.t.int,.int .u64 p5.t.bits,.int .i64 0,.int .i64 p5.code] 84)=Wn at *
   focus
    rw[rounds_succ]
    obtain⟨ha,hf,hv,hJ⟩:=A2.out
    have nl:¬s.data.toList.length<=a:=by rw[size_list];omega
    obtain⟨f',rfl⟩:∃f',f=f'+1:=⟨f-1,by omega⟩
    obtain⟨hi,hx,he⟩:=nW (hv.trans (Gy nl (EP5.out z0 z1 z2 z3 z4) z5))
    have yy:=HY.out i hi D _ (U5.out i D wr _ hJ HW.out)
    rw[hx] at yy
    have y2:YieldAt Fence.wide (n-1) prog l #[.agg #[.int .i64 0,.int .i64 0,.string ⟨#[]⟩,.int .i64 0,.int .u64 0],.agg #[.int .i64 60,.int .i64 (a:Nat)]] Wn λe W'=>(e=.returned (.bool true)/\(∃D',J (i+1) D' W')/\(∀k,k<Wn.heap.size->¬D k->W'.heap[k]? = Wn.heap[k]?))\/(e=.returned (.bool false)/\X W'):=yy
    obtain⟨fn',tmps,assign,body,hy,hR⟩:=y2
    have HE:=hid he
    clear ha hf hv hJ nl A2 he yy hx hi
    go_upto_region 16 with fail
    refine(wpIn_wide (n:=n)).1 ?_
    gi_wp2
    refine hR.mono ?_
    rintro e W3 (⟨rfl,hK3,-⟩|⟨rfl,JQ⟩)
    ·rw[HE.out] at hK3
     clear hy hR
     gi_wp2
     go_wp2
     refine(show ∀ {Q:Exit->Act->World->Prop} {a:Act} {w:World},Q .ret a w->Exit.noGoto Q .ret a w from λh=>by first|exact h|(unfold Exit.noGoto;exact h)|simpa [Exit.noGoto] using h) ?_
     refine bodyPost_ret (results_none rfl _ _ _) rfl ?_
     exact⟨⟨_,rfl⟩,.inl hK3⟩
    ·clear hy hR
     gi_wp2
     go_wp2
     refine(show ∀ {Q:Exit->Act->World->Prop} {a:Act} {w:World},Q .ret a w->Exit.noGoto Q .ret a w from λh=>by first|exact h|(unfold Exit.noGoto;exact h)|simpa [Exit.noGoto] using h) ?_
     refine bodyPost_ret (results_none rfl _ _ _) rfl ?_
     exact⟨⟨_,rfl⟩,.inr JQ⟩
   all_goals
    obtain⟨ha,hf,hv,hJ⟩:=A2.out
    have nl:¬s.data.toList.length<=a:=by rw[size_list];omega
    obtain⟨f',rfl⟩:∃f',f=f'+1:=⟨f-1,by omega⟩
    have e1:IntKind.i64.wrap ((a:Int)+(pc.size:Nat))=((a+pc.size:Nat):Int):=by have:=HS.out;have:=hz.out;rw[IntKind.wrap_i64];omega
    have FA:=hid (And.intro ha hf)
    by_cases co:pc.code=0
    ·by_cases kd:pc.t.kind=0
     ·have hv2:=hid (hv.trans (KL nl ep.out zc co kd))
      have HJ:=hid hJ
      clear ha hf hv hJ nl A2
      rw[co,kd] at cc
      go_wp2_with (guard_target =~ Calls _ _ _ _ _;(with_reducible refine cc.mono ?_);rintro e Wc ⟨rfl,pJ⟩;(have sc:=SC.out Wc (below_two' HW.out pJ));(have HC:=hid (below_two' HW.out pJ));clear cc pJ)
      go_roundw
      case rel=>exact⟨a+pc.size,f',i,D,by go_num,by have:=hz.out;omega,by have:=FA.out;omega,hv2.out,U5.out i D wr _ HJ.out (below_two' HC.out ((aH _ Wc).alloc (aL _) _))⟩
      case measure=>have:=hz.out;simp[intOf];omega
     ·obtain⟨hi,hx,hr⟩:=uT (hv.trans (KJ nl ep.out zc co kd))
      have HR:=hid hr
      have HJ:=hid hJ
      have DK:=hid (HL.out i D wr hJ).2
      clear ha hf hv hJ nl A2 hr
      rw[co] at cc
      go_upto_region 13 with(guard_target =~ Calls _ _ _ _ _;(with_reducible refine cc.mono ?_);rintro e Wc ⟨rfl,pJ⟩;(have sc:=SC.out Wc (below_two' HW.out pJ));(have HC:=hid (below_two' HW.out pJ));clear cc pJ)
      have bn:Below wr.heap.size wr (Wc.alloc (.cells #[.int .i64 pc.t.kind,.int .i64 (a:Nat),.string pc.t.text,.int .i64 pc.t.int,.int .u64 pc.t.bits,.int .i64 (pc.size:Nat),.int .i64 0] 84)):=below_two' HC.out ((aH _ Wc).alloc (aL _) _)
      have yy:=HY.out i hi D _ (U5.out i D wr _ HJ.out bn)
      rw[hx] at yy
      have y2:YieldAt Fence.wide (n-1) prog l #[.agg #[.int .i64 pc.t.kind,.int .i64 (a:Nat),.string pc.t.text,.int .i64 pc.t.int,.int .u64 pc.t.bits],.agg #[.int .i64 0,.int .i64 0]] (Wc.alloc (.cells #[.int .i64 pc.t.kind,.int .i64 (a:Nat),.string pc.t.text,.int .i64 pc.t.int,.int .u64 pc.t.bits,.int .i64 (pc.size:Nat),.int .i64 0] 84)) λe W'=>(e=.returned (.bool true)/\(∃D',J (i+1) D' W')/\(∀k,k<(Wc.alloc (.cells #[.int .i64 pc.t.kind,.int .i64 (a:Nat),.string pc.t.text,.int .i64 pc.t.int,.int .u64 pc.t.bits,.int .i64 (pc.size:Nat),.int .i64 0] 84)).heap.size->¬D k->W'.heap[k]? = (Wc.alloc (.cells #[.int .i64 pc.t.kind,.int .i64 (a:Nat),.string pc.t.text,.int .i64 pc.t.int,.int .u64 pc.t.bits,.int .i64 (pc.size:Nat),.int .i64 0] 84)).heap[k]?))\/(e=.returned (.bool false)/\X W'):=yy
      obtain⟨fn',tmps,assign,body,hy,hR⟩:=y2
      have nD:=hid (show ¬D Wc.heap.size from λh=>by have:=DK.out _ h;have:=HC.out.size;omega)
      clear yy bn hx hi
      refine(wpIn_wide (n:=n)).1 ?_
      gi_wp2
      refine hR.mono ?_
      rintro e W3 (⟨rfl,hK3,hkeep⟩|⟨rfl,JQ⟩)
      ·have hr3:W3.heap[Wc.heap.size]? = some (.cells #[.int .i64 pc.t.kind,.int .i64 (a:Nat),.string pc.t.text,.int .i64 pc.t.int,.int .u64 pc.t.bits,.int .i64 (pc.size:Nat),.int .i64 0] 84):=(hkeep _ (by rw[World.size_alloc];omega) nD.out).trans (dI Wc _)
       have ec:=aA hr3
       have K3:=hid hK3
       clear hK3 hkeep hr3 hy hR
       gi_wp2
       go_wp2
       go_roundw
       case rel=>
        obtain⟨D',hD'⟩:=K3.out
        exact⟨a+pc.size,f',i+1,D',by go_num,by have:=hz.out;omega,by have:=FA.out;omega,HR.out,hD'⟩
       case measure=>have:=hz.out;simp[intOf];omega
      ·clear hy hR
       gi_wp2
       go_wp2
       refine(show ∀ {Q:Exit->Act->World->Prop} {a:Act} {w:World},Q .ret a w->Exit.noGoto Q .ret a w from λh=>by first|exact h|(unfold Exit.noGoto;exact h)|simpa [Exit.noGoto] using h) ?_
       refine bodyPost_ret (results_none rfl _ _ _) rfl ?_
       exact⟨⟨_,rfl⟩,.inr JQ⟩
    ·obtain⟨hi,hx,he⟩:=nW (hv.trans (KN nl ep.out zc co))
     have HE:=hid he
     have HJ:=hid hJ
     clear ha hf hv hJ nl A2 he
     go_upto_region 10 with(guard_target =~ Calls _ _ _ _ _;(with_reducible refine cc.mono ?_);rintro e Wc ⟨rfl,pJ⟩;(have sc:=SC.out Wc (below_two' HW.out pJ));(have HC:=hid (below_two' HW.out pJ));clear cc pJ)
     have bn:Below wr.heap.size wr (Wc.alloc (.cells #[.int .i64 pc.t.kind,.int .i64 0,.string pc.t.text,.int .i64 pc.t.int,.int .u64 pc.t.bits,.int .i64 (pc.size:Nat),.int .i64 pc.code] 84)):=below_two' HC.out ((aH _ Wc).alloc (aL _) _)
     have yy:=HY.out i hi D _ (U5.out i D wr _ HJ.out bn)
     rw[hx] at yy
     have y2:YieldAt Fence.wide (n-1) prog l #[.agg #[.int .i64 0,.int .i64 0,.string ⟨#[]⟩,.int .i64 0,.int .u64 0],.agg #[.int .i64 pc.code,.int .i64 (a:Nat)]] (Wc.alloc (.cells #[.int .i64 pc.t.kind,.int .i64 0,.string pc.t.text,.int .i64 pc.t.int,.int .u64 pc.t.bits,.int .i64 (pc.size:Nat),.int .i64 pc.code] 84)) λe W'=>(e=.returned (.bool true)/\(∃D',J (i+1) D' W')/\(∀k,k<(Wc.alloc (.cells #[.int .i64 pc.t.kind,.int .i64 0,.string pc.t.text,.int .i64 pc.t.int,.int .u64 pc.t.bits,.int .i64 (pc.size:Nat),.int .i64 pc.code] 84)).heap.size->¬D k->W'.heap[k]? = (Wc.alloc (.cells #[.int .i64 pc.t.kind,.int .i64 0,.string pc.t.text,.int .i64 pc.t.int,.int .u64 pc.t.bits,.int .i64 (pc.size:Nat),.int .i64 pc.code] 84)).heap[k]?))\/(e=.returned (.bool false)/\X W'):=yy
     obtain⟨fn',tmps,assign,body,hy,hR⟩:=y2
     clear yy bn hx hi
     refine(wpIn_wide (n:=n)).1 ?_
     gi_wp2
     refine hR.mono ?_
     rintro e W3 (⟨rfl,hK3,-⟩|⟨rfl,JQ⟩)
     ·rw[HE.out] at hK3
      clear hy hR
      gi_wp2
      go_wp2
      refine(show ∀ {Q:Exit->Act->World->Prop} {a:Act} {w:World},Q .ret a w->Exit.noGoto Q .ret a w from λh=>by first|exact h|(unfold Exit.noGoto;exact h)|simpa [Exit.noGoto] using h) ?_
      refine bodyPost_ret (results_none rfl _ _ _) rfl ?_
      exact⟨⟨_,rfl⟩,.inl hK3⟩
     ·clear hy hR
      gi_wp2
      go_wp2
      refine(show ∀ {Q:Exit->Act->World->Prop} {a:Act} {w:World},Q .ret a w->Exit.noGoto Q .ret a w from λh=>by first|exact h|(unfold Exit.noGoto;exact h)|simpa [Exit.noGoto] using h) ?_
      refine bodyPost_ret (results_none rfl _ _ _) rfl ?_
      exact⟨⟨_,rfl⟩,.inr JQ⟩
  ·have c':¬ (a:Int)<s.size:=by omega
   obtain⟨f',rfl⟩:∃f',f=f'+1:=⟨f-1,by omega⟩
   obtain⟨hi,hx,he⟩:=nW (hv.trans (KM (by rw[size_list];omega)))
   have yy:=HY.out i hi D _ hJ
   rw[hx] at yy
   have y2:YieldAt Fence.wide (n-1) prog l #[.agg #[.int .i64 7,.int .i64 (a:Nat),.string ⟨#[]⟩,.int .i64 0,.int .u64 0],.agg #[.int .i64 0,.int .i64 0]] wr λe W'=>(e=.returned (.bool true)/\(∃D',J (i+1) D' W')/\(∀k,k<wr.heap.size->¬D k->W'.heap[k]? = wr.heap[k]?))\/(e=.returned (.bool false)/\X W'):=yy
   obtain⟨fn',tmps,assign,body,hy,hR⟩:=y2
   have HE:=hid he
   clear ha hf hv hJ he yy hx hi
   go_upto_region 17 with fail
   refine(wpIn_wide (n:=n)).1 ?_
   gi_wp2
   refine hR.mono ?_
   rintro e W3 (⟨rfl,hK3,-⟩|⟨rfl,JQ⟩)
   ·rw[HE.out] at hK3
    clear hy hR
    gi_wp2
    go_wp2
    refine(show ∀ {Q:Exit->Act->World->Prop} {a:Act} {w:World},Q .normal a w->Exit.noGoto Q .normal a w from λh=>by first|exact h|(unfold Exit.noGoto;exact h)|simpa [Exit.noGoto] using h) ?_
    go_end0
    exact⟨⟨_,rfl⟩,.inl hK3⟩
   ·clear hy hR
    gi_wp2
    go_wp2
    refine(show ∀ {Q:Exit->Act->World->Prop} {a:Act} {w:World},Q .normal a w->Exit.noGoto Q .normal a w from λh=>by first|exact h|(unfold Exit.noGoto;exact h)|simpa [Exit.noGoto] using h) ?_
    go_end0
    exact⟨⟨_,rfl⟩,.inr JQ⟩
def vE(L D:Nat)(Dk:Nat->Prop)(W:World)(In:World->Prop)(Ix:Code->World->Prop):Exit->Act->World->Prop
 | .normal,_,W'=>(W'.heap[L]? = W.heap[L]? /\ W'.heap[D]? = W.heap[D]?)/\(∀k,k<W.heap.size->¬Dk k->W'.heap[k]? = W.heap[k]?)/\In W'
 | .ret,_,W'=>(W'.heap[L]? = W.heap[L]? /\ W'.heap[D]? = W.heap[D]?)/\Ix .ret W'
 | .exit id,_,W'=>(W'.heap[L]? = W.heap[L]? /\ W'.heap[D]? = W.heap[D]?)/\Ix (.exit id) W'
 | _,_,_=>False
theorem zH{gf:Nat}{lb:Array Value}{vals:List (Array Value)}{G:World->Prop}(hit:sW gf lb vals G)(eg:∀args w,(callFunc gf args).run prog w=.ok (.enter gf args) w)
  {g:Operand} {ps:Array Tmp} {assign body:Code} {Q:Exit->Act->World->Prop} {a:Act} {W0:World} (hg:a.eval g=.func (.func gf) #[] lb)
  (I:Nat->(Nat->Prop)->World->Prop) (Ix:Code->World->Prop) (hL:∀i D W,I i D W->G W/\∀k,D k->k<W.heap.size)
  (hI:∀i D W W',I i D W->It.bL (λk=>k=W0.heap.size+1) W W'->I i D W')
  (hIx:∀c W W',Ix c W->It.bL (λk=>k=W0.heap.size+1) W W'->Ix c W') (D0:Nat->Prop) (h0:I 0 D0 W0)
  (A:Nat->Act) (hsz:∀i (hi:i<vals.length),vals[i].size=ps.size)
  (hassign:∀ (L i:Nat) (hi:i<vals.length) (W:World) (K:Act->World->Prop),K (A i) W->assign.wpIn (Fence.wide.inRound L) 7 prog (Exit.then K (λ_ _ _=>False)) { tmps:=(ps.zip vals[i]).foldl (λt (p,v)=>t.setIfInBounds p v) a.tmps,defers:=[] } W)
  (hbody:∀ (L:Nat) i (hi:i<vals.length) D W,L=W0.heap.size+1->I i D W->W0.heap.size+2<=W.heap.size->(∃r,W.heap[L]? = some (.loop r))->body.wpIn (Fence.wide.inRound L) 7 prog (vE L W0.heap.size D W (λW'=>∃D',I (i+1) D' W') Ix) (A i) W)
  (hdone:∀D W,I vals.length D W->W.heap[W0.heap.size]? = some (.deferred (some []))->Q .normal { a with defers:={ target:=.collected W0.heap.size,args:=#[] }::a.defers } W)
  (hstop:∀c W,Ix c W->W.heap[W0.heap.size]? = some (.deferred (some []))->c.wp prog Q { a with defers:={ target:=.collected W0.heap.size,args:=#[] }::a.defers } W) :
  (Code.rangeFunc g ps assign body).wp prog Q a W0:=by
 have Jq:∀ (W:World) (o:Obj),It.bL (λk=>k=W0.heap.size+1) W (W.putObj (W0.heap.size+1) o):=λW o=>It.kY (S:=λk=>k=W0.heap.size+1) (L:=W0.heap.size+1) rfl o
 refine(wpIn_wide (n:=9)).1 (It.Ku hg eg (λW=>∃D,I vals.length D W) Ix ?_ ?_ ?_)
 ·intro r W1 hr1 hr2 hr3 hr4 hr5 hr6 hW1 hL1
  have hI1:I 0 D0 W1:=by
   refine hI 0 D0 W0 W1 h0 ?_
   rw[hW1];exact((It.bL.refl _ W0).alloc _).alloc _
  have hsz1:W0.heap.size+2<=W1.heap.size:=by rw[hW1];simp
  have key:=hit 8 (W0.heap.size+1)
   (λi D W=>I i D W/\It.eD W (W0.heap.size+1) W0.heap.size r/\W0.heap.size+2<=W.heap.size)
   (λW=>∃c,Ix c W/\It.eD W (W0.heap.size+1) W0.heap.size { r with state:=.done,pending:=some c })
   (by omega) (λi D W h=>hL i D W h.1) ?_ ?_ D0 W1 ⟨hI1,hL1,hsz1⟩
  ·refine key.mono ?_
   rintro e W3 ⟨hv,⟨D',h1,h2,_⟩|⟨c,h1,h2⟩⟩
   ·exact⟨hv,.inl ⟨⟨D',h1⟩,r,h2,by rw[hr1];simp,hr2⟩⟩
   ·exact⟨hv,.inr ⟨c,h1,_,h2,by simp,rfl⟩⟩
  ·rintro i D W W' ⟨h1,h2,h3⟩ hb
   exact⟨hI i D W W' h1 (It.bL.of_below hb),h2.kept (hb.block _ (by omega)) (hb.block _ (by omega)),by have:=hb.size;omega⟩
  ·rintro i hi D W ⟨hi1,hl1,hs1⟩
   have hargs:vals[i].size=r.params.size:=by rw[hr4];exact hsz i hi
   refine YieldAt.mono (It.Gs (Rn:=λW'=>(∃D',I (i+1) D' W'/\It.eD W' (W0.heap.size+1) W0.heap.size r/\W0.heap.size+2<=W'.heap.size)/\(∀k,k<W.heap.size->¬D k->W'.heap[k]? = W.heap[k]?)) (Rx:=λc W'=>Ix c W'/\It.eD W' (W0.heap.size+1) W0.heap.size { r with state:=.done,pending:=some c }) hl1 hr1 hargs (A i) ?_ ?_) ?_
   ·intro K hK
    rw[hr5,hr4,hr3]
    exact hassign _ i hi W K hK
   ·intro W2 hW2 hl2
    have hI2:I i D W2:=by rw[hW2];exact hI i D W _ hi1 (Jq W _)
    have hs2:W0.heap.size+2<=W2.heap.size:=by rw[hW2];simpa using hs1
    have hbd:=hbody _ i hi D W2 rfl hI2 hs2 ⟨_,hl2.lp⟩
    rw[<- hr6] at hbd
    refine wpIn_mono hbd ?_
    intro e a3 W3 hp
    have put:∀q:Loop,(W3.heap[W0.heap.size+1]? = W2.heap[W0.heap.size+1]? /\ W3.heap[W0.heap.size]? = W2.heap[W0.heap.size]?)->It.eD W3 (W0.heap.size+1) W0.heap.size { r with state:=.busy }/\It.eD (W3.putObj (W0.heap.size+1) (.loop q)) (W0.heap.size+1) W0.heap.size q/\W0.heap.size+2<=(W3.putObj (W0.heap.size+1) (.loop q)).heap.size:=by
     rintro q ⟨e1,e2⟩
     have hl3:=hl2.kept e1 e2
     refine⟨hl3,hl3.put q,?_⟩
     have:=(gI.1 hl3.lp).1
     simp;omega
    cases e with
    | normal=>
     obtain⟨hk,hkp,D',hin⟩:=hp
     obtain⟨p1,p2,p4⟩:=put { r with state:=.ready,pending:=none } hk
     have er:({ r with state:=.ready,pending:=none }:Loop)=r:=by cases r;simp_all
     refine⟨p1,⟨D',hI _ D' W3 _ hin (Jq W3 _),?_,p4⟩,?_⟩
     ·rw[er] at p2 ⊢
      exact p2
     ·intro k hk1 hk2
      by_cases ck:k=W0.heap.size+1
      ·subst ck
       rw[er] at p2 ⊢
       rw[p2.lp,hl1.lp]
      ·rw[bO ck,hkp k (by rw[hW2];simpa using hk1) hk2,hW2,bO ck]
    | ret=>
     obtain⟨hk,hin⟩:=hp
     obtain⟨p1,p2,p4⟩:=put { r with state:=.done,pending:=some .ret } hk
     exact⟨p1,hIx _ W3 _ hin (Jq W3 _),p2⟩
    | exit id=>
     obtain⟨hk,hin⟩:=hp
     obtain⟨p1,p2,p4⟩:=put { r with state:=.done,pending:=some (.exit id) } hk
     exact⟨p1,hIx _ W3 _ hin (Jq W3 _),p2⟩
    | goto t=>exact hp.elim
    | panic ch=>exact hp.elim
    | outgrown=>exact hp.elim
   ·rintro e W' (⟨rfl,h1⟩|⟨rfl,c,h1⟩)
    ·exact .inl ⟨rfl,h1.1,h1.2⟩
    ·exact .inr ⟨rfl,c,h1⟩
 ·intro W3 q hd hl
  obtain⟨D',hd'⟩:=hd
  exact hdone D' _ (hI _ D' W3 _ hd' (Jq W3 _)) hl.defs
 ·intro W3 q c hs hl
  exact wpIn_wide.2 (hstop c _ (hIx _ W3 _ hs (Jq W3 _)) hl.defs)
theorem Gz(s:ByteArray)(hs:s.size<=1000000)(sb:Nat)(big:65536<s.size):sW 44 #[.pointer (some ⟨sb,0,none⟩)] (oJ s.data.toList) (λW=>W.cell? ⟨sb,0,none⟩=some (.string s)/\Tabs W/\MarksIn W):=by
 intro n l J X hn hL hB hY D0 W h0
 have ev:oJ s.data.toList=[yv gX 0 2 0]:=if_pos (by rw[size_list];exact big)
 rw[ev] at hY ⊢
 show CallsIn Fence.wide n prog 44 #[.func (.yield l) #[] #[],.pointer (some ⟨sb,0,none⟩)] W λe W'=>(∃v,e=.returned v)/\((∃D',J 1 D' W')\/X W')
 obtain⟨⟨g0,-,-⟩,-⟩:=hL 0 D0 W h0
 have b1:(s.size:Int)>65536:=by omega
 have y1:=hY 0 (by simp) D0 W h0
 have y2:YieldAt Fence.wide (n-1) prog l #[.agg #[.int .i64 0,.int .i64 0,.string ⟨#[]⟩,.int .i64 0,.int .u64 0],.agg #[.int .i64 2,.int .i64 0]] W λe W'=>(e=.returned (.bool true)/\(∃D',J 1 D' W')/\(∀k,k<W.heap.size->¬D0 k->W'.heap[k]? = W.heap[k]?))\/(e=.returned (.bool false)/\X W'):=y1
 obtain⟨fn,tmps,assign,body,hy,hR⟩:=y2
 refine callsIn_of_wp func44 rfl trivial ?_ rfl
 simp only[ntmps44,List.size_toArray,List.length_cons,List.length_nil,Nat.reduceAdd,Nat.reduceSub,dQ,eU,List.push_toArray,List.append_toArray,List.nil_append,List.cons_append]
 clear hY hL hB y1 ev
 refine wpIn_wide.2 ?_
 refine wp_scope_straight ?_
 go_upto_region 1 with fail
 refine(wpIn_wide (n:=n)).1 ?_
 gi_wp2
 refine hR.mono ?_
 rintro e W3 (⟨rfl,hK3,-⟩|⟨rfl,JQ⟩)
 ·gi_wp2
  go_wp2
  refine(show ∀ {Q:Exit->Act->World->Prop} {a:Act} {w:World},Q .ret a w->Exit.noGoto Q .ret a w from λh=>by first|exact h|exact⟨h,trivial⟩|(unfold Exit.noGoto;exact h)|simpa [Exit.noGoto] using h) ?_
  refine bodyPost_ret (results_none rfl _ _ _) rfl ?_
  exact⟨⟨_,rfl⟩,.inl hK3⟩
 ·gi_wp2
  go_wp2
  refine(show ∀ {Q:Exit->Act->World->Prop} {a:Act} {w:World},Q .ret a w->Exit.noGoto Q .ret a w from λh=>by first|exact h|exact⟨h,trivial⟩|(unfold Exit.noGoto;exact h)|simpa [Exit.noGoto] using h) ?_
  refine bodyPost_ret (results_none rfl _ _ _) rfl ?_
  exact⟨⟨_,rfl⟩,.inr JQ⟩
theorem yK(s:ByteArray)(hs:s.size<=1000000)(sb:Nat):sW 44 #[.pointer (some ⟨sb,0,none⟩)] (oJ s.data.toList) (λW=>W.cell? ⟨sb,0,none⟩=some (.string s)/\Tabs W/\MarksIn W):=by
 by_cases big:65536<s.size
 ·exact Gz s hs sb big
 ·exact Nv s (by omega) sb
theorem Dq{P:Program}{m L D:Nat}{r:Loop}{args:Array Value}{W:World}{Rn:World->Prop}{Rx:Code->World->Prop}(hl:It.eD W L D r)(hr:r.state=.ready)(hs:args.size=r.params.size)(a1:Act)(W1:World)(hl1:It.eD W1 L D r)
  (hassign:∀K:Act->World->Prop,K a1 W1->r.assign.wpIn (Fence.wide.inRound L) m P (Exit.then K (λ_ _ _=>False)) { tmps:=(r.params.zip args).foldl (λt (p,v)=>t.setIfInBounds p v) r.tmps,defers:=[] } W)
  (hbody:∀W2,W2=W1.putObj L (.loop { r with state:=.busy })->It.eD W2 L D { r with state:=.busy }->r.body.wpIn (Fence.wide.inRound L) m P (It.Gf L D r Rn Rx) a1 W2) :
  YieldAt Fence.wide m P L args W (λe W'=>(e=.returned (.bool true)/\Rn W')\/(e=.returned (.bool false)/\∃c,Rx c W')):=by
 have hy:=run_yield (P:=P) (args:=args) hl.lp hs
 refine⟨r.fn,_,r.assign,r.body,hy,roundIn_of_wpIn (F:=Fence.wide) trivial (hassign _ ⟨_,run_beginRound hl1.lp hr,?_⟩)⟩
 refine wpIn_mono (hbody _ rfl (hl1.put _)) ?_
 rintro e a3 W3 hp
 cases e with
 | normal=>
  obtain⟨h3,h4⟩:=hp
  exact⟨_,_,run_endRound none h3.lp,.inl ⟨rfl,h4⟩⟩
 | ret=>
  obtain⟨h3,h4⟩:=hp
  exact⟨_,_,run_endRound (some .ret) h3.lp,.inr ⟨rfl,_,h4⟩⟩
 | exit id=>
  obtain⟨h3,h4⟩:=hp
  exact⟨_,_,run_endRound (some (.exit id)) h3.lp,.inr ⟨rfl,_,h4⟩⟩
 | goto t=>exact hp.elim
 | panic ch=>exact hp.elim
 | outgrown=>exact hp.elim
theorem wW{gf:Nat}{lb:Array Value}{vals:List (Array Value)}{G:World->Prop}(hit:sW gf lb vals G)(eg:∀args w,(callFunc gf args).run prog w=.ok (.enter gf args) w)
  {g:Operand} {ps:Array Tmp} {assign body:Code} {Q:Exit->Act->World->Prop} {a:Act} {W0:World} (hg:a.eval g=.func (.func gf) #[] lb)
  (I:Nat->(Nat->Prop)->World->Prop) (Ix:Code->World->Prop) (hL:∀i D W,I i D W->G W/\∀k,D k->k<W.heap.size)
  (hI:∀i D W W',I i D W->It.bL (λk=>k=W0.heap.size+1) W W'->I i D W')
  (hIx:∀c W W',Ix c W->It.bL (λk=>k=W0.heap.size+1) W W'->Ix c W') (D0:Nat->Prop) (h0:I 0 D0 W0)
  (A:Nat->World->Act) (N:Nat->World->World) (hN:∀i W,Below W.heap.size W (N i W)) (hsz:∀i (hi:i<vals.length),vals[i].size=ps.size)
  (hassign:∀ (L i:Nat) (hi:i<vals.length) (W:World) (K:Act->World->Prop),K (A i W) (N i W)->assign.wpIn (Fence.wide.inRound L) 7 prog (Exit.then K (λ_ _ _=>False)) { tmps:=(ps.zip vals[i]).foldl (λt (p,v)=>t.setIfInBounds p v) a.tmps,defers:=[] } W)
  (hbody:∀ (L:Nat) i (hi:i<vals.length) D W (o:Obj),L=W0.heap.size+1->I i D W->W0.heap.size+2<=W.heap.size->body.wpIn (Fence.wide.inRound L) 7 prog (vE L W0.heap.size D ((N i W).putObj L o) (λW'=>∃D',I (i+1) D' W') Ix) (A i W) ((N i W).putObj L o))
  (hdone:∀D W,I vals.length D W->W.heap[W0.heap.size]? = some (.deferred (some []))->Q .normal { a with defers:={ target:=.collected W0.heap.size,args:=#[] }::a.defers } W)
  (hstop:∀c W,Ix c W->W.heap[W0.heap.size]? = some (.deferred (some []))->c.wp prog Q { a with defers:={ target:=.collected W0.heap.size,args:=#[] }::a.defers } W) :
  (Code.rangeFunc g ps assign body).wp prog Q a W0:=by
 have Jq:∀ (W:World) (o:Obj),It.bL (λk=>k=W0.heap.size+1) W (W.putObj (W0.heap.size+1) o):=λW o=>It.kY (S:=λk=>k=W0.heap.size+1) (L:=W0.heap.size+1) rfl o
 refine(wpIn_wide (n:=9)).1 (It.Ku hg eg (λW=>∃D,I vals.length D W) Ix ?_ ?_ ?_)
 ·intro r W1 hr1 hr2 hr3 hr4 hr5 hr6 hW1 hL1
  have hI1:I 0 D0 W1:=by
   refine hI 0 D0 W0 W1 h0 ?_
   rw[hW1];exact((It.bL.refl _ W0).alloc _).alloc _
  have hsz1:W0.heap.size+2<=W1.heap.size:=by rw[hW1];simp
  have key:=hit 8 (W0.heap.size+1)
   (λi D W=>I i D W/\It.eD W (W0.heap.size+1) W0.heap.size r/\W0.heap.size+2<=W.heap.size)
   (λW=>∃c,Ix c W/\It.eD W (W0.heap.size+1) W0.heap.size { r with state:=.done,pending:=some c })
   (by omega) (λi D W h=>hL i D W h.1) ?_ ?_ D0 W1 ⟨hI1,hL1,hsz1⟩
  ·refine key.mono ?_
   rintro e W3 ⟨hv,⟨D',h1,h2,_⟩|⟨c,h1,h2⟩⟩
   ·exact⟨hv,.inl ⟨⟨D',h1⟩,r,h2,by rw[hr1];simp,hr2⟩⟩
   ·exact⟨hv,.inr ⟨c,h1,_,h2,by simp,rfl⟩⟩
  ·rintro i D W W' ⟨h1,h2,h3⟩ hb
   exact⟨hI i D W W' h1 (It.bL.of_below hb),h2.kept (hb.block _ (by omega)) (hb.block _ (by omega)),by have:=hb.size;omega⟩
  ·rintro i hi D W ⟨hi1,hl1,hs1⟩
   have hargs:vals[i].size=r.params.size:=by rw[hr4];exact hsz i hi
   refine YieldAt.mono (Dq (Rn:=λW'=>(∃D',I (i+1) D' W'/\It.eD W' (W0.heap.size+1) W0.heap.size r/\W0.heap.size+2<=W'.heap.size)/\(∀k,k<W.heap.size->¬D k->W'.heap[k]? = W.heap[k]?)) (Rx:=λc W'=>Ix c W'/\It.eD W' (W0.heap.size+1) W0.heap.size { r with state:=.done,pending:=some c }) hl1 hr1 hargs (A i W) (N i W) (hl1.kept ((hN i W).block _ (by omega)) ((hN i W).block _ (by omega))) ?_ ?_) ?_
   ·intro K hK
    rw[hr5,hr4,hr3]
    exact hassign _ i hi W K hK
   ·intro W2 hW2 hl2
    have hbd:=hbody _ i hi D W (.loop { r with state:=.busy }) rfl hi1 hs1
    rw[<- hW2] at hbd
    rw[<- hr6] at hbd
    refine wpIn_mono hbd ?_
    intro e a3 W3 hp
    have put:∀q:Loop,(W3.heap[W0.heap.size+1]? = W2.heap[W0.heap.size+1]? /\ W3.heap[W0.heap.size]? = W2.heap[W0.heap.size]?)->It.eD W3 (W0.heap.size+1) W0.heap.size { r with state:=.busy }/\It.eD (W3.putObj (W0.heap.size+1) (.loop q)) (W0.heap.size+1) W0.heap.size q/\W0.heap.size+2<=(W3.putObj (W0.heap.size+1) (.loop q)).heap.size:=by
     rintro q ⟨e1,e2⟩
     have hl3:=hl2.kept e1 e2
     refine⟨hl3,hl3.put q,?_⟩
     have:=(gI.1 hl3.lp).1
     simp;omega
    cases e with
    | normal=>
     obtain⟨hk,hkp,D',hin⟩:=hp
     obtain⟨p1,p2,p4⟩:=put { r with state:=.ready,pending:=none } hk
     have er:({ r with state:=.ready,pending:=none }:Loop)=r:=by cases r;simp_all
     refine⟨p1,⟨D',hI _ D' W3 _ hin (Jq W3 _),?_,p4⟩,?_⟩
     ·rw[er] at p2 ⊢
      exact p2
     ·intro k hk1 hk2
      by_cases ck:k=W0.heap.size+1
      ·subst ck
       rw[er] at p2 ⊢
       rw[p2.lp,hl1.lp]
      ·rw[bO ck,hkp k (by rw[hW2];have:=(hN i W).size;simp;omega) hk2,hW2,bO ck,(hN i W).block k hk1]
    | ret=>
     obtain⟨hk,hin⟩:=hp
     obtain⟨p1,p2,p4⟩:=put { r with state:=.done,pending:=some .ret } hk
     exact⟨p1,hIx _ W3 _ hin (Jq W3 _),p2⟩
    | exit id=>
     obtain⟨hk,hin⟩:=hp
     obtain⟨p1,p2,p4⟩:=put { r with state:=.done,pending:=some (.exit id) } hk
     exact⟨p1,hIx _ W3 _ hin (Jq W3 _),p2⟩
    | goto t=>exact hp.elim
    | panic ch=>exact hp.elim
    | outgrown=>exact hp.elim
   ·rintro e W' (⟨rfl,h1⟩|⟨rfl,c,h1⟩)
    ·exact .inl ⟨rfl,h1.1,h1.2⟩
    ·exact .inr ⟨rfl,c,h1⟩
 ·intro W3 q hd hl
  obtain⟨D',hd'⟩:=hd
  exact hdone D' _ (hI _ D' W3 _ hd' (Jq W3 _)) hl.defs
 ·intro W3 q c hs hl
  exact wpIn_wide.2 (hstop c _ (hIx _ W3 _ hs (Jq W3 _)) hl.defs)
theorem X6:∃d,prog.underlying 25=some d/\(match d with | .struct _ | .array _ _=>true|_=>false)=true:=by
 have h:(prog.underlying 25).map (λd=>match d with | .struct _ | .array _ _=>true|_=>false)=some true:=by kernel_rfl
 cases hu:prog.underlying 25 with
 | none=>rw[hu] at h;cases h
 | some d=>rw[hu] at h;injection h with h;exact⟨d,rfl,h⟩
theorem PL:(prog.info? 25).map (·.size)=some 2:=by kernel_rfl
theorem Uv:prog.underlying 51=some (.slice 36):=by kernel_rfl
theorem Ee(w:World)(b:Nat)(v:Value)(h:w.cell? ⟨b,0,none⟩=some v):(loadVar 51 ⟨b,0,none⟩).run prog w=.ok v w:=by
 simp[loadVar,isAgg,run_underlying Uv,h,go_sem]
theorem Gj{fn:Func}{p q:Tmp}(h:fn.results = #[.cell p 51,.cell q 25])(tmps:Array Value)(w:World)(b2 b3:Nat)(v c a:Value)(fr fr':Nat × Nat)(t2:TypeId)(hp:tmps.getD p undef=.pointer (some ⟨b2,0,none⟩))(hq:tmps.getD q undef=.pointer (some ⟨b3,0,none⟩))(hg:w.heap[b2]? = some (.cells #[v] t2 fr))(hg3:w.heap[b3]? = some (.cells #[c,a] 25 fr')):(results fn tmps).run prog w=.ok (.tuple #[v,.agg #[c,a]]) w:=by
 obtain⟨d,hu,hd⟩:=X6
 have hl:=run_loadVar_row (P:=prog) w b3 25 25 #[c,a] fr' d hg3 hu (by cases d <;> first|rfl|exact hd) (by rw[PL];rfl)
 have hl2:=Ee w b2 v (cell_of_row w b2 0 _ _ _ hg)
 have hp':tmps[p]?.getD undef=.pointer (some ⟨b2,0,none⟩):=by simpa using hp
 have hq':tmps[q]?.getD undef=.pointer (some ⟨b3,0,none⟩):=by simpa using hq
 simp[results,h,hp',hq',asAddr,hl,hl2]
end Go.Proofs.YtgchnkgolclmgaaGreatDoor.W
