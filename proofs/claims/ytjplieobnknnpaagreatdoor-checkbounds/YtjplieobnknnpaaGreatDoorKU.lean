import Derived.Test.YtjplieobnknnpaaGreatDoorKT
import Derived.Test.YtjplieobnknnpaaGreatDoorKS
import Derived.Scope
open List renaming getElem?_toArray → z1z, getElem?_cons_zero → z2z, getElem?_cons_succ → z3z, getElem?_eq_getElem → z5z, getElem?_eq_some_iff → z6z
open Go.World renaming alloc_heap_new → z7z
open Go.RowKit.Below renaming refl → z0z, heap_setCell → z4z
open Go.Proofs.Tryz
set_option maxRecDepth 1000000
set_option maxHeartbeats 8000000
namespace Go.Proofs.YtjplieobnknnpaaGreatDoor.W.Tr
open Go.ChangeShapes Go.WideShapes Go.RowKit Go.Shelf Go.ChangeMaps Ck
set_option linter.unusedVariables false
set_option linter.unusedSimpArgs false
section
variable {w:World} {pb:Nat} {L:List (Nd × Nat)} {E:List Nat} {mr:Int} {pm:List (ByteArray × Nat)} {lv ev:Value} {mp mt mc:Nat} {ov sv pv:Value} {bs:List Nat} {c:Sc} {B:Nat}
theorem wW(h:Pr w pb L E mr pm lv ev mp mt mc ov sv pv bs c B)(a:Nat)(n:Nd)(kids:Nat)(ha:L[a]? = some (n,kids))(R:List (Nat × Nat))(hsub:n.kind=3->∃ks:Fo,ks.len=kids/\Df L E (a+1) ks/\0<kids/\kids+4*((AJ ks).length+1)<=1000000/\JR R a=Iq n ks) :
  Calls prog 43 #[.pointer (some ⟨pb,0,none⟩),.int .i64 (a:Nat)] w λe w'=>e=.returned (.int .i64 (EZ L R mr c a))/\Below w.heap.size w w':=by
 obtain⟨g,cap,rfl,hg,hL,_⟩:=id h.row
 obtain⟨ge,ce,rfl,hge,_⟩:=id h.ends
 obtain⟨c0,-⟩:=h.row.at ha
 simp only at c0
 have hal:=(z6z.1 ha).1
 have o1:(0:Int)<=a:=by omega
 have o2:(a:Int)<L.length:=by omega
 have p0:=AU h.blk 0
 have p1:=AU h.blk 1
 have p2:=AU h.blk 2
 have p8:=AU h.blk 8
 change _=some (Value.slice (some ⟨g,0,none⟩) L.length cap) at p0
 change _=some (Value.slice (some ⟨ge,0,none⟩) E.length ce) at p1
 change _=some (Value.int .i64 mr) at p2
 change _=some (Value.map (some mc)) at p8
 have hr:=zC h.cst 3
 have hka:Jl L a=n.kind:=by unfold Jl;rw[ha]
 obtain⟨q,hq⟩:∃q,EZ L R mr c a=q:=⟨_,rfl⟩
 rw[hq]
 unfold EZ at hq
 rw[hka] at hq
 by_cases hk:n.kind=3
 case neg=>
  rw[if_neg hk] at hq
  subst hq
  have b3:(n.kind != 3)=true:=by simp[bne,hk]
  clear h ha hsub hk hka hr p1 p2 p8 hal hL hge hg
  go_enter func43,ntmps43
  go_wp2
  go_ret
  exact⟨rfl,z0z _ _⟩
 case pos=>
  rw[if_pos hk] at hq
  have b3:(n.kind != 3)=false:=by simp[bne,hk]
  obtain⟨ks,k1,k2,k3,k4,k5⟩:=hsub hk
  have crg:=λ(p:BW w)=>BW.calls (p:=p) (dO g cap ge ce L E h.ok n ks a p.w' ⟨h.row.below p.h,h.ends.below p.h⟩ (by rw[k1];exact ha) k2 (by omega) (by omega))
  rw[<- k5] at crg
  generalize JR R a=rv at *
  have dd:decide (((c.cst.length:Nat):Int)>64)=decide (64<c.cst.length):=by
   by_cases h:64<c.cst.length
   ·rw[decide_eq_true h,decide_eq_true (by omega)]
   ·rw[decide_eq_false h,decide_eq_false (by omega)]
  by_cases h64:64<c.cst.length
  case pos=>
   rw[if_pos h64] at hq
   subst hq
   have b4:(((c.cst.length:Nat):Int)>64):=by omega
   generalize c.cst.length=cl at *
   clear h ha hsub hk hka p1 p2 hal hL hge hg crg k1 k2 k3 k4 k5 dd
   go_enter func43,ntmps43
   go_wp2
   go_ret
   exact⟨rfl,z0z _ _⟩
  case neg=>
   rw[if_neg h64] at hq
   have b4:¬ (((c.cst.length:Nat):Int)>64):=by omega
   have f0:=BW.cell p0
   have f1:=BW.cell p1
   have f2:=BW.cell p2
   have inst:Nonempty (BW w):=⟨⟨_,z0z _ _⟩⟩
   generalize c.cst.length=cl at *
   have HQ:=hid hq
   clear h ha hsub hk hka p1 p2 hal hL hge hg k1 k2 k3 k4 k5 dd hq
   by_cases hmr:mr<(rv:Nat)
   case pos=>
    have b5:((rv:Nat):Int)>mr:=hmr
    obtain rfl:(83:Int)=q:=by have:=HQ.out;rw[if_pos hmr] at this;exact this
    go_enter func43,ntmps43
    go_upto_region 5 with fail
    clear p0 p8 c0 hr
    (refine Ji (by kernel_rfl) (by kernel_rfl) ?_)
    repeat (go_big_quiet_step (first|(go_at_call 17;exact crg _)))
    (refine wpQuiet_nil ?_)
    intro _ hw'
    (obtain⟨pw,hw''⟩:=hw')
    subst hw''
    go_wp2
    go_ret
    exact⟨rfl,pw.h⟩
   case neg=>
    have b5:¬ ((rv:Nat):Int)>mr:=hmr
    obtain rfl:(0:Int)=q:=by have:=HQ.out;rw[if_neg hmr] at this;exact this
    go_enter func43,ntmps43
    go_upto_region 5 with fail
    clear p0 p8 c0 hr
    (refine Ji (by kernel_rfl) (by kernel_rfl) ?_)
    repeat (go_big_quiet_step (first|(go_at_call 17;exact crg _)))
    (refine wpQuiet_nil ?_)
    intro _ hw'
    (obtain⟨pw,hw''⟩:=hw')
    subst hw''
    go_wp2
    go_ret
    exact⟨rfl,pw.h⟩
end
theorem yG{l:List ((Nd × Nat) × Nat)}{m:Nat}(h:∀p ∈ l,p.2<=m)(k:Nd × Nat):∀p ∈ bump l k,p.2<=m+1:=by
 induction l with
 | nil=>
  intro p hp
  simp[bump] at hp
  subst hp
  simp
 | cons q l ih=>
  intro p hp
  unfold bump at hp
  split at hp
  ·rcases List.mem_cons.1 hp with rfl|hp
   ·have:=h q (by simp);simp only;omega
   ·have:=h p (by simp[hp]);omega
  ·rcases List.mem_cons.1 hp with rfl|hp
   ·have:=h p (by simp);omega
   ·exact ih (λx hx=>h x (by simp[hx])) p hp
theorem ACK{L:List (Nd × Nat)}{c c1:Sc}{a:Nat}{n:Nd}{kids m:Nat}(h:EO L c a n kids=some c1)(hc:∀p ∈ c.cst,p.2<=m):∀p ∈ c1.cst,p.2<=m+1:=by
 have hc':∀p ∈ c.cst,p.2<=m+1:=λp hp=>by have:=hc p hp;omega
 unfold EO at h
 simp only at h
 split at h
 ·cases h;exact hc'
 split at h
 ·cases h;intro p hp;cases hp
 split at h
 ·split at h
  ·cases h
  ·cases h;exact hc'
 split at h
 ·split at h
  ·cases h
  ·split at h
   ·cases h;exact hc'
   ·cases h;exact hc'
 split at h
 ·cases h;exact hc'
 split at h
 ·cases h;exact hc'
 split at h
 ·split at h
  ·cases h
  ·cases h;exact hc'
 split at h
 ·cases h;exact yG hc _
 ·cases h;exact hc'
theorem uO{L:List (Nd × Nat)}{c c1:Sc}(h:EH L c=some c1):c1.cst=c.cst:=by
 unfold EH at h
 split at h
 ·cases h
 ·simp only at h
  split at h
  ·split at h
   ·cases h
   ·cases h;rfl
  ·cases h;rfl
def Ti(pb:Nat)(w:World):Nat:=match w.cell? ⟨pb,5,none⟩ with|some (.slice _ n _)=>n|_=>0
structure Fs (w0:World) (B:Nat) (wr:World) (pb:Nat) (L:List (Nd × Nat)) (E:List Nat) (mr:Int) (pm:List (ByteArray × Nat)) (lv ev:Value) (mp mt mc k0 a:Nat) (c:Sc):Prop where
 pz:∃ov sv pv bs,Pz B wr pb L E mr pm lv ev mp mt mc ov sv pv bs c
 inv:Hw L.length c
 cs:∀p ∈ c.cst,p.2<=a
 few:c.opn.length<=257
 b0:wr.heap[k0]? = some (.cells #[.int .i64 0,.int .i64 0] 26 (0,0))
 b1:wr.heap[k0+1]? = some (.cells #[.int .i64 0,.int .i64 0] 26 (0,0))
 bel:Below B w0 wr
section
variable {w0 wr w':World} {B:Nat} {pb:Nat} {L:List (Nd × Nat)} {E:List Nat} {mr:Int} {pm:List (ByteArray × Nat)} {lv ev:Value} {mp mt mc k0 a:Nat} {c c1:Sc}
theorem Fs.size(h:Fs w0 B wr pb L E mr pm lv ev mp mt mc k0 a c):B<=wr.heap.size:=by
 obtain⟨ov,sv,pv,bs,q⟩:=h.pz
 exact q.size
theorem Fs.below(h:Fs w0 B wr pb L E mr pm lv ev mp mt mc k0 a c)(hB:Below wr.heap.size wr w'):Fs w0 B w' pb L E mr pm lv ev mp mt mc k0 a c:=by
 obtain⟨ov,sv,pv,bs,q⟩:=id h.pz
 have hK:=(A9.refl wr).more hB
 exact⟨⟨ov,sv,pv,bs,q.below hB⟩,h.inv,h.cs,h.few,hK _ _ h.b0,hK _ _ h.b1,h.bel.trans (hB.mono h.size)⟩
theorem Fs.olen(h:Fs w0 B wr pb L E mr pm lv ev mp mt mc k0 a c):Ti pb wr=c.opn.length:=by
 obtain⟨ov,sv,pv,bs,q⟩:=h.pz
 have p5:=AU q.pr.blk 5
 change _=some ov at p5
 obtain⟨oo,oc,e⟩:=Et q.pr.opn
 unfold Ti
 rw[p5,e]
theorem Fs.reads(h:Fs w0 B wr pb L E mr pm lv ev mp mt mc k0 a c){gl lc:Nat}(hlv:lv=.slice (some ⟨gl,0,none⟩) L.length lc){i:Nat}{n:Nd}{kids:Nat}(hn:L[i]? = some (n,kids)):wr.cell? ⟨pb,0,none⟩=some (.slice (some ⟨gl,0,none⟩) L.length lc)/\wr.cell? ⟨gl,i*6+1,none⟩=some (.int .i64 n.a):=by
 obtain⟨ov,sv,pv,bs,q⟩:=id h.pz
 have p0:=AU q.pr.blk 0
 change _=some lv at p0
 have hrow:=q.pr.row
 rw[hlv] at p0 hrow
 exact⟨p0,(hrow.at hn).2.1⟩
theorem Fs.enter(h:Fs w0 B wr pb L E mr pm lv ev mp mt mc k0 a c){n:Nd}{kids:Nat}(hn:L[a]? = some (n,kids))(hf:¬256<c.opn.length)(hL:L.length<=1000000)(he:EO L c a n kids=some c1) :
  Calls prog 40 #[.pointer (some ⟨pb,0,none⟩),.int .i64 (a:Nat)] wr λe w'=>e=.returned (.tuple #[])/\Fs w0 B w' pb L E mr pm lv ev mp mt mc k0 (a+1) c1:=by
 obtain⟨ov,sv,pv,bs,q⟩:=id h.pz
 have hal:=(z6z.1 hn).1
 obtain⟨l1,l2,l3⟩:=h.inv.len
 refine(rA q a hn ⟨by omega,by omega,by omega⟩ (λp hp=>by have:=h.cs p hp;omega) (VP _ _ _ h.inv) he).mono ?_
 rintro e w' ⟨rfl,hB,hK,ov',sv',pv',bs',q'⟩
 refine⟨rfl,⟨ov',sv',pv',bs',q'⟩,h.inv.enter he hal,ACK he h.cs,?_,hK _ _ h.b0,hK _ _ h.b1,h.bel.trans hB⟩
 rw[NY he]
 simp
 omega
theorem Fs.leave(h:Fs w0 B wr pb L E mr pm lv ev mp mt mc k0 a c){o:Nat × Nat × Nat}{r:List (Nat × Nat × Nat)}(ho:c.opn=o::r)(he:EH L c=some c1) :
  Calls prog 42 #[.pointer (some ⟨pb,0,none⟩)] wr λe w'=>e=.returned (.int .i64 (o.1:Nat))/\Fs w0 B w' pb L E mr pm lv ev mp mt mc k0 a c1:=by
 obtain⟨ov,sv,pv,bs,q⟩:=id h.pz
 obtain⟨i1,i2,i3,i4,i5⟩:=h.inv.leave ho he
 obtain⟨p,hp⟩:∃p,L[o.1]? = some p:=⟨_,z5z i2⟩
 obtain⟨n,kids⟩:=p
 refine(AB8 q ho i3 i4 i5 hp he).mono ?_
 rintro e w' ⟨rfl,hB,hK,ov',sv',pv',bs',q'⟩
 refine⟨rfl,⟨ov',sv',pv',bs',q'⟩,i1,by rw[uO he];exact h.cs,?_,hK _ _ h.b0,hK _ _ h.b1,h.bel.trans hB⟩
 have:=h.few
 rw[ho] at this
 rw[Ny ho he]
 simp at this
 omega
end
theorem ABx:(prog.underlying 26).map (λd=>match d with | .struct _ | .array _ _=>true|_=>false)=some true:=by kernel_rfl
theorem ABF:(prog.info? 26).map (·.size)=some 2:=by kernel_rfl
theorem Nk{fn:Func}{p:Tmp}(h:fn.results = #[.cell p 26])(tmps:Array Value)(w:World)(gb:Nat)(v0 v1:Value)(fr:Nat × Nat)(hp:tmps.getD p undef=.pointer (some ⟨gb,0,none⟩))(hg:w.heap[gb]? = some (.cells #[v0,v1] 26 fr)):(results fn tmps).run prog w=.ok (.agg #[v0,v1]) w:=by
 have ht:=ABx
 cases hu:prog.underlying 26 with
 | none=>rw[hu] at ht;cases ht
 | some d=>
  rw[hu] at ht
  simp only[Option.map_some,Option.some.injEq] at ht
  refine results_cell_row h tmps w gb _ _ fr d hp hg hu ?_ (by rw[ABF];rfl)
  cases d <;> first|rfl|exact ht
theorem Ik{w:World}{gb:Nat}{z0 z1:Value}{t:TypeId}(hg:w.heap[gb]? = some (.cells #[z0,z1] t (0,0)))(v0 v1:Value):((w.setCell ⟨gb,0,none⟩ v0).setCell ⟨gb,1,none⟩ v1).heap[gb]? = some (.cells #[v0,v1] t (0,0)):=by
 have h1:=Io (c:=[z0,z1]) hg 0 v0
 have h2:=Io (c:=[v0,z1]) h1 1 v1
 simpa using h2
section
variable {w:World} {B:Nat} {pb:Nat} {L:List (Nd × Nat)} {E:List Nat} {mr:Int} {pm:List (ByteArray × Nat)} {lv ev:Value} {mp mt mc:Nat} {ov sv pv:Value} {bs:List Nat} {c:Sc}
theorem vF(h:Pz B w pb L E mr pm lv ev mp mt mc ov sv pv bs c)(hI:Hw L.length c)(ho:c.opn=[])(hcs:c.cst=[])(R:List (Nat × Nat))
  (hR:∀ (a:Nat) (n:Nd) (kids:Nat),L[a]? = some (n,kids)->n.kind=3->∃ks:Fo,ks.len=kids/\Df L E (a+1) ks/\0<kids/\kids+4*((AJ ks).length+1)<=1000000/\JR R a=Iq n ks)
  (r:Int × Int) (hp:IG Am pm L E R mr L.length 0 c=some r) :
  Calls prog 25 #[.pointer (some ⟨pb,0,none⟩)] w λe w'=>e=.returned (.agg #[.int .i64 r.1,.int .i64 r.2])/\Below B w w':=by
 obtain⟨gl,lc,hlv,hgl,hLl,_⟩:=id h.pr.row
 have p0:=AU h.pr.blk 0
 change _=some lv at p0
 rw[hlv] at p0
 have b1:Below w.heap.size w (w.alloc (.cells #[.int .i64 0,.int .i64 0] 26)):=(z0z _ w).alloc (Nat.le_refl _) _
 have z1:(w.alloc (.cells #[.int .i64 0,.int .i64 0] 26)).heap.size=w.heap.size+1:=World.size_alloc ..
 have b2:Below (w.alloc (.cells #[.int .i64 0,.int .i64 0] 26)).heap.size (w.alloc (.cells #[.int .i64 0,.int .i64 0] 26)) ((w.alloc (.cells #[.int .i64 0,.int .i64 0] 26)).alloc (.cells #[.int .i64 0,.int .i64 0] 26)):=(z0z _ _).alloc (Nat.le_refl _) _
 have bb:=b1.trans (b2.mono b1.size)
 have d2:=z7z (w.alloc (.cells #[.int .i64 0,.int .i64 0] 26)) (.cells #[.int .i64 0,.int .i64 0] 26)
 rw[z1] at d2
 have d1:=(b2.block w.heap.size (by omega)).trans (z7z w (.cells #[.int .i64 0,.int .i64 0] 26))
 have F0:Fs w B ((w.alloc (.cells #[.int .i64 0,.int .i64 0] 26)).alloc (.cells #[.int .i64 0,.int .i64 0] 26)) pb L E mr pm lv ev mp mt mc w.heap.size 0 c:=
  ⟨⟨ov,sv,pv,bs,h.below bb⟩,hI,(λp hp=>by rw[hcs] at hp;cases hp),(by rw[ho];simp),d1,d2,bb.mono h.size⟩
 have q0:=(bb.cell (p:=⟨pb,0,none⟩) h.lt).trans p0
 have HF:=hid F0
 have HB0:=hid h.size
 have HR:=hid hR
 have HP:=hid hp
 have HL:=hid hLl
 have HLV:=hid hlv
 clear h hI ho hcs hR hp b1 z1 b2 bb d1 d2 F0 p0 hgl hlv
 go_enter func25,ntmps25
 go_wp2
 go_step3
 go_wp2
 go_step3
 have HQ:=hid q0
 clear q0
 generalize (w.alloc (.cells #[.int .i64 0,.int .i64 0] 26)).alloc (.cells #[.int .i64 0,.int .i64 0] 26)=W2 at *
 generalize w.heap.size=k0 at *
 have q0:=HQ.out
 clear HQ
 go_wp2
 go_loopw [4,5,6,7,14] (λ_ _ _ _ ii wr=>∃ (a:Nat) (c:Sc),a<=L.length/\ii=.int .i64 (a:Nat)/\Fs w B wr pb L E mr pm lv ev mp mt mc k0 a c/\IG Am pm L E R mr (L.length-a) a c=some r) (λ_ _ _ _ ii _=>L.length-(intOf ii).toNat)
 case atStart=>exact⟨0,c,Nat.zero_le _,rfl,HF.out,HP.out⟩
 case round=>
  obtain⟨a,c,hal,rfl,hf,hpp⟩:=hrel
  clear HF HP q0
  have hLL:=HL.out
  by_cases hin:a<L.length
  ·obtain⟨⟨n,kids⟩,hn⟩:∃p,L[a]? = some p:=⟨_,z5z hin⟩
   obtain⟨m,hm⟩:∃m,L.length-a=m+1:=⟨L.length-a-1,by omega⟩
   rw[hm,IG,hn] at hpp
   simp only at hpp
   have k1:(a:Int)<L.length:=by omega
   obtain⟨ov,sv,pv,bs,q⟩:=id hf.pz
   have cf:=ACd q.pr a n kids hn
   by_cases hfp:Ez Am pm E c a n kids=0
   ·rw[if_pos hfp] at hpp
    rw[hfp] at cf
    have hnest:¬256<c.opn.length:=by
     intro h9
     unfold Ez at hfp
     rw[if_pos h9] at hfp
     cases hfp
    cases hen:EO L c a n kids with
    | none=>rw[hen] at hpp;cases hpp
    | some c1=>
     rw[hen] at hpp
     simp only at hpp
     have CE:=hid (show ∀w5,Below wr.heap.size wr w5->Calls prog 40 #[.pointer (some ⟨pb,0,none⟩),.int .i64 (a:Nat)] w5 λe w'=>e=.returned (.tuple #[])/\Fs w B w' pb L E mr pm lv ev mp mt mc k0 (a+1) c1 from λw5 hB=>(hf.below hB).enter hn hnest hLL hen)
     have HPP:=hid hpp
     have HM:=hid hm
     have HN:=hid hn
     clear q hf hpp hm hn hnest hfp hen ov sv pv bs
     go_wp2_with (first|(go_at_call 39;(with_reducible refine cf.mono ?_);rintro e w5 ⟨rfl,hB5⟩;(have ce:=CE.out w5 hB5);clear cf CE)|(go_at_call 40;(with_reducible refine ce.mono ?_);rintro e w6 ⟨rfl,hf6⟩;clear ce))
     go_loopw [6,7] (λ_ _ w7=>∃c':Sc,Fs w B w7 pb L E mr pm lv ev mp mt mc k0 (a+1) c'/\Ga L E R mr a c'.opn.length c'=Ga L E R mr a c1.opn.length c1) (λ_ _ w7=>Ti pb w7)
     case atStart=>exact⟨c1,hf6,rfl⟩
     case round=>
      obtain⟨c',hf,hpo⟩:=hrel
      obtain⟨ov,sv,pv,bs,q⟩:=id hf.pz
      have cd:=wT q.pr a (by omega) (VP _ _ _ hf.inv)
      cases hdn:KX E c' a with
      | false=>
       rw[hdn] at cd
       have hst:Ga L E R mr a c'.opn.length c'=some (.inr c'):=by
        cases ho:c'.opn with
        | nil=>rfl
        | cons o rr=>
         unfold KX at hdn
         rw[ho] at hdn
         simp only[beq_eq_false_iff_ne,ne_eq] at hdn
         rw[List.length_cons,Ga,ho]
         simp only
         rw[if_neg hdn]
       have hpp:=HPP.out
       rw[<- hpo,hst] at hpp
       simp only at hpp
       have HQ:=hid hpp
       have HFf:=hid hf
       have wk:IntKind.i64.wrap ((a:Int)+1)=(a:Int)+1:=by rw[IntKind.wrap_i64];omega
       have HMM:=hid (show L.length-((a:Int)+1).toNat<L.length-((a:Int)).toNat by omega)
       clear q hf hpo hst hpp hdn hf6 ov sv pv bs
       go_wp2_with (go_at_call 41;(with_reducible refine cd.mono ?_);rintro e w8 ⟨rfl,hB8⟩;clear cd)
       go_roundw
       case rel=>
        refine⟨a+1,c',by omega,rfl,HFf.out.below hB8,?_⟩
        have:=HM.out
        rw[show L.length-(a+1)=m by omega]
        exact HQ.out
       case measure=>exact HMM.out
      | true=>
       rw[hdn] at cd
       obtain⟨o,rr,ho,hend⟩:∃o rr,c'.opn=o::rr/\IV E o.1=a+1:=by
        unfold KX at hdn
        cases ho:c'.opn with
        | nil=>rw[ho] at hdn;cases hdn
        | cons o rr=>
         rw[ho] at hdn
         exact⟨o,rr,rfl,by simpa using hdn⟩
       have hps:=Xp (L:=L) (R:=R) (mr:=mr) a rr.length c' ho hend
       have hlen:c'.opn.length=rr.length+1:=by rw[ho];rfl
       rw[<- hlen,hpo] at hps
       have hpp:=HPP.out
       cases hle:EH L c' with
       | none=>rw[hps,hle] at hpp;cases hpp
       | some c2=>
        rw[hle] at hps
        simp only at hps
        have hoi:=(hf.inv.leave ho hle).2.1
        obtain⟨⟨no,ko⟩,hno⟩:∃p,L[o.1]? = some p:=⟨_,z5z hoi⟩
        have CL:=hid (show ∀w8,Below wr.heap.size wr w8->Calls prog 42 #[.pointer (some ⟨pb,0,none⟩)] w8 λe w'=>e=.returned (.int .i64 (o.1:Nat))/\Fs w B w' pb L E mr pm lv ev mp mt mc k0 (a+1) c2 from λw8 hB=>(hf.below hB).leave ho hle)
        have CB:=hid (show ∀w9,Fs w B w9 pb L E mr pm lv ev mp mt mc k0 (a+1) c2->Calls prog 43 #[.pointer (some ⟨pb,0,none⟩),.int .i64 (o.1:Nat)] w9 λe w'=>e=.returned (.int .i64 (EZ L R mr c2 o.1))/\Below w9.heap.size w9 w' from λw9 h9=>by
         obtain⟨ov9,sv9,pv9,bs9,q9⟩:=id h9.pz
         exact wW q9.pr o.1 no ko hno R (λk3=>HR.out o.1 no ko hno k3))
        have m1:(0:Int)<=(o.1:Nat):=by omega
        have m2:((o.1:Nat):Int)<L.length:=by omega
        have hol:=Ny ho hle
        have hO:=hf.olen
        by_cases hbh:EZ L R mr c2 o.1=0
        ·rw[if_pos hbh] at hps
         rw[hbh] at CB
         have HX:=hid (And.intro hps (And.intro hol (And.intro hO hlen)))
         clear q hf hpo hps hpp hdn hf6 ov sv pv bs hle ho hend hlen hol hO hno hoi hbh
         go_wp2_with (first|(go_at_call 41;(with_reducible refine cd.mono ?_);rintro e w8 ⟨rfl,hB8⟩;(have cl:=CL.out w8 hB8);clear cd CL)|(go_at_call 42;(with_reducible refine cl.mono ?_);rintro e w9 ⟨rfl,hf9⟩;(have cb:=CB.out w9 hf9);(have HF9:=hid hf9);clear cl CB hf9)|(go_at_call 43;(with_reducible refine cb.mono ?_);rintro e w10 ⟨rfl,hB10⟩;clear cb))
         go_roundw
         case rel=>
          obtain⟨x1,x2,x3,x4⟩:=HX.out
          refine⟨c2,HF9.out.below hB10,?_⟩
          rw[x2]
          exact x1.symm
         case measure=>
          obtain⟨x1,x2,x3,x4⟩:=HX.out
          have y:=(HF9.out.below hB10).olen
          rw[x2] at y
          rw[y,x3,x4]
          exact Nat.lt_succ_self _
        ·rw[if_neg hbh] at hps
         rw[hps] at hpp
         have hr:(EZ L R mr c2 o.1,KY L o.1)=r:=Option.some.inj hpp
         subst hr
         have hpl:KY L o.1=no.a:=by unfold KY;rw[hno]
         have HPL:=hid hpl
         have RD:=hid (show ∀w9,Fs w B w9 pb L E mr pm lv ev mp mt mc k0 (a+1) c2->w9.cell? ⟨pb,0,none⟩=some (.slice (some ⟨gl,0,none⟩) L.length lc)/\w9.cell? ⟨gl,o.1*6+1,none⟩=some (.int .i64 no.a) from λw9 h9=>h9.reads HLV.out hno)
         have nbh:(EZ L R mr c2 o.1 != 0)=true:=by simpa using hbh
         generalize hbq:EZ L R mr c2 o.1=bh at *
         have HBQ:=hid hbq
         clear hbq
         clear q hf hpo hps hpp hdn hf6 ov sv pv bs hle ho hend hlen hol hO hno hoi hbh hpl
         go_upto_region 13 with(first|(go_at_call 41;(with_reducible refine cd.mono ?_);rintro e w8 ⟨rfl,hB8⟩;(have cl:=CL.out w8 hB8);clear cd CL)|(go_at_call 42;(with_reducible refine cl.mono ?_);rintro e w9 ⟨rfl,hf9⟩;(have cb:=CB.out w9 hf9);(have HF9:=hid hf9);clear cl CB hf9)|(go_at_call 43;(with_reducible refine cb.mono ?_);rintro e w10 ⟨rfl,hB10⟩;clear cb))
         have hf10:=HF9.out.below hB10
         obtain⟨r0,r1⟩:=RD.out w10 hf10
         have e0:=cell_of_row _ _ 0 _ _ _ hf10.b1
         have e1:=cell_of_row _ _ 1 _ _ _ hf10.b1
         have y0:=thaw hf10.b1 0
         have y1:=thaw hf10.b1 1
         simp only[z1z,z2z,z3z] at e0 e1
         have H10:=hid hf10
         clear hf10 HF9 hB10 RD
         go_upto_region 15 with fail
         clear r0 r1 e0 e1 y0 y1
         have g1:((w10.setCell ⟨k0+1,0,none⟩ (.int .i64 bh)).setCell ⟨k0+1,1,none⟩ (.int .i64 no.a)).heap[k0+1]? = some (.cells #[.int .i64 bh,.int .i64 no.a] 26 (0,0)):=Ik H10.out.b1 _ _
         have g0:((w10.setCell ⟨k0+1,0,none⟩ (.int .i64 bh)).setCell ⟨k0+1,1,none⟩ (.int .i64 no.a)).heap[k0]? = some (.cells #[.int .i64 0,.int .i64 0] 26 (0,0)):=(z4z _ _ _ _ (by show k0≠k0+1;omega)).trans ((z4z _ _ _ _ (by show k0≠k0+1;omega)).trans H10.out.b0)
         have hb11:Below B w ((w10.setCell ⟨k0+1,0,none⟩ (.int .i64 bh)).setCell ⟨k0+1,1,none⟩ (.int .i64 no.a)):=(H10.out.bel.setCell (p:=⟨k0+1,0,none⟩) (by have:=HB0.out;show B<=k0+1;omega) _).setCell (p:=⟨k0+1,1,none⟩) (by have:=HB0.out;show B<=k0+1;omega) _
         generalize (w10.setCell ⟨k0+1,0,none⟩ (.int .i64 bh)).setCell ⟨k0+1,1,none⟩ (.int .i64 no.a)=W11 at *
         have e0:=cell_of_row _ _ 0 _ _ _ g1
         have e1:=cell_of_row _ _ 1 _ _ _ g1
         have f0:=cell_of_row _ _ 0 _ _ _ g0
         have f1:=cell_of_row _ _ 1 _ _ _ g0
         have z0:=thaw g0 0
         have z1:=thaw g0 1
         simp only[z1z,z2z,z3z] at e0 e1 f0 f1
         have G0:=hid g0
         have HB11:=hid hb11
         clear g0 g1 hb11 H10
         go_wp2
         try rw[Exit.noGoto_ret]
         refine bodyPost_ret (P:=prog) (fn:=Tryz.f25) (Nk rfl _ _ k0 _ _ (0,0) rfl (Ik G0.out _ _)) rfl ?_
         exact⟨by rw[<- HBQ.out,<- HPL.out],(HB11.out.setCell (p:=⟨k0,0,none⟩) HB0.out _).setCell (p:=⟨k0,1,none⟩) HB0.out _⟩
   ·rw[if_neg hfp] at hpp
    have hr:(Ez Am pm E c a n kids,n.a)=r:=Option.some.inj hpp
    subst hr
    have RD:=hid (show ∀w9,Below wr.heap.size wr w9->(w9.cell? ⟨pb,0,none⟩=some (.slice (some ⟨gl,0,none⟩) L.length lc)/\w9.cell? ⟨gl,a*6+1,none⟩=some (.int .i64 n.a))/\Fs w B w9 pb L E mr pm lv ev mp mt mc k0 a c from λw9 hB=>⟨(hf.below hB).reads HLV.out hn,hf.below hB⟩)
    have nbh:(Ez Am pm E c a n kids != 0)=true:=by simpa using hfp
    generalize hbq:Ez Am pm E c a n kids=bh at *
    have HBQ:=hid hbq
    clear hbq
    have m1:(0:Int)<=(a:Nat):=by omega
    clear q hf hpp hm hn hfp ov sv pv bs
    go_upto_region 7 with(go_at_call 39;(with_reducible refine cf.mono ?_);rintro e w10 ⟨rfl,hB10⟩;clear cf)
    obtain⟨⟨r0,r1⟩,hf10⟩:=RD.out w10 hB10
    have e0:=cell_of_row _ _ 0 _ _ _ hf10.b1
    have e1:=cell_of_row _ _ 1 _ _ _ hf10.b1
    have y0:=thaw hf10.b1 0
    have y1:=thaw hf10.b1 1
    simp only[z1z,z2z,z3z] at e0 e1
    have H10:=hid hf10
    clear hf10 hB10 RD
    go_upto_region 15 with fail
    clear r0 r1 e0 e1 y0 y1
    have g1:((w10.setCell ⟨k0+1,0,none⟩ (.int .i64 bh)).setCell ⟨k0+1,1,none⟩ (.int .i64 n.a)).heap[k0+1]? = some (.cells #[.int .i64 bh,.int .i64 n.a] 26 (0,0)):=Ik H10.out.b1 _ _
    have g0:((w10.setCell ⟨k0+1,0,none⟩ (.int .i64 bh)).setCell ⟨k0+1,1,none⟩ (.int .i64 n.a)).heap[k0]? = some (.cells #[.int .i64 0,.int .i64 0] 26 (0,0)):=(z4z _ _ _ _ (by show k0≠k0+1;omega)).trans ((z4z _ _ _ _ (by show k0≠k0+1;omega)).trans H10.out.b0)
    have hb11:Below B w ((w10.setCell ⟨k0+1,0,none⟩ (.int .i64 bh)).setCell ⟨k0+1,1,none⟩ (.int .i64 n.a)):=(H10.out.bel.setCell (p:=⟨k0+1,0,none⟩) (by have:=HB0.out;show B<=k0+1;omega) _).setCell (p:=⟨k0+1,1,none⟩) (by have:=HB0.out;show B<=k0+1;omega) _
    generalize (w10.setCell ⟨k0+1,0,none⟩ (.int .i64 bh)).setCell ⟨k0+1,1,none⟩ (.int .i64 n.a)=W11 at *
    have e0:=cell_of_row _ _ 0 _ _ _ g1
    have e1:=cell_of_row _ _ 1 _ _ _ g1
    have f0:=cell_of_row _ _ 0 _ _ _ g0
    have f1:=cell_of_row _ _ 1 _ _ _ g0
    have z0:=thaw g0 0
    have z1:=thaw g0 1
    simp only[z1z,z2z,z3z] at e0 e1 f0 f1
    have G0:=hid g0
    have HB11:=hid hb11
    clear g0 g1 hb11 H10
    go_wp2
    try rw[Exit.noGoto_ret]
    refine bodyPost_ret (P:=prog) (fn:=Tryz.f25) (Nk rfl _ _ k0 _ _ (0,0) rfl (Ik G0.out _ _)) rfl ?_
    exact⟨by rw[<- HBQ.out],(HB11.out.setCell (p:=⟨k0,0,none⟩) HB0.out _).setCell (p:=⟨k0,1,none⟩) HB0.out _⟩
  ·have ha:a=L.length:=by omega
   subst ha
   rw[Nat.sub_self] at hpp
   have hr:(0,0)=r:=by simpa [IG] using hpp
   subst hr
   have k1:¬ ((L.length:Nat):Int)<L.length:=by omega
   have e0:=cell_of_row _ _ 0 _ _ _ hf.b1
   have e1:=cell_of_row _ _ 1 _ _ _ hf.b1
   have f0:=cell_of_row _ _ 0 _ _ _ hf.b0
   have f1:=cell_of_row _ _ 1 _ _ _ hf.b0
   have z0:=thaw hf.b0 0
   have z1:=thaw hf.b0 1
   simp only[z1z,z2z,z3z] at e0 e1 f0 f1
   have HFf:=hid hf
   clear hf hpp hin hal
   go_wp2
   refine bodyPost_ret (Nk rfl _ _ k0 _ _ (0,0) rfl (Ik HFf.out.b0 _ _)) rfl ?_
   exact⟨rfl,(HFf.out.bel.setCell (p:=⟨k0,0,none⟩) HB0.out _).setCell (p:=⟨k0,1,none⟩) HB0.out _⟩
end
end Go.Proofs.YtjplieobnknnpaaGreatDoor.W.Tr
