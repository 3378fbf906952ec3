import Derived.Test.YtjplieobnknnpaaGreatDoorJC
import Derived.Test.YtjplieobnknnpaaGreatDoorJP
import Derived.Test.YtjplieobnknnpaaGreatDoorJR
import Derived.Sort.Grow
import Derived.Deep.QuietTactic
import Derived.BigQuiet
set_option maxRecDepth 1000000
set_option maxHeartbeats 8000000
namespace Go.Proofs.YtjplieobnknnpaaGreatDoor.W
set_option linter.unusedVariables false
theorem UR(p:UInt8->Bool)(l:List UInt8)(h:∀c ∈ l,p c=true):runN p l=l.length:=by
 induction l with
 | nil=>rfl
 | cons c r ih=>rw[GQ (h c (by simp)),ih (λx hx=>h x (by simp[hx]))];rfl
theorem D8{a b:Pc}(h:a.size=0):DI a b=b:=if_pos h
theorem Gj{a b:Pc}(h:¬a.size=0):DI a b=a:=if_neg h
theorem Qh(c:UInt8)(r:List UInt8)(h1:c≠35)(h2:FE c=false):(Eb (c::r)).size=0:=by
 show Ho (c::r)=0
 unfold Ho
 rw[if_neg (by intro h;injection h with h;exact h1 h),GJ h2]
theorem Ye(c:UInt8)(h:AV c=true):c≠35/\FE c=false/\c≠120/\c≠34:=by
 have all:∀n:Fin 256,AV (UInt8.ofNat n)=true->UInt8.ofNat n≠35/\FE (UInt8.ofNat n)=false/\UInt8.ofNat n≠120/\UInt8.ofNat n≠34:=by decide +kernel
 have:=all ⟨c.toNat,c.toNat_lt⟩
 simpa using this (by simpa using h)
theorem VU(l:List UInt8)(hd:∀c ∈ l,AV c=true)(hn:l≠[]):AQ l=if (Dg l).2=0 then Aj ⟨4,⟨#[]⟩,(Dg l).1,0⟩ l.length else DF l.length 62:=by
 cases l with
 | nil=>exact absurd rfl hn
 | cons c r=>
  obtain⟨f1,f2,f3,f4⟩:=Ye c (hd c (by simp))
  have g1:=Qh c r f1 f2
  have g2:nameP (c::r)=Cg:=if_pos (.inr (hd c (by simp)))
  have g3:Cj (c::r)=Cg:=by
   refine if_neg (λh=>?_)
   cases r with
   | nil=>cases h
   | cons d r=>
    injection h with _ h
    injection h with h
    exact(Ye d (hd d (by simp))).2.2.1 h
  have g4:=UR AV (c::r) hd
  have g5:Cr (c::r)=if (Dg (c::r)).2=0 then Aj ⟨4,⟨#[]⟩,(Dg (c::r)).1,0⟩ (c::r).length else DF (c::r).length 62:=by
   unfold Cr
   rw[g4,if_neg (by simp),List.take_length]
  unfold AQ
  rw[D8 g1,g2,D8 (show Cg.size=0 from rfl),g3,D8 (show Cg.size=0 from rfl),Gj,g5]
  rw[g5]
  split <;> simp[Aj,DF]
theorem ACV(r:List UInt8):AQ (45::r)=Aj ⟨3,bytesOf [45],0,0⟩ 1:=by
 have g1:=Qh 45 r (by decide) (by decide)
 have g2:nameP (45::r)=Cg:=if_pos (.inl (GJ (by decide)))
 have g3:Cj (45::r)=Cg:=by
  refine if_neg (λh=>?_)
  cases r with
  | nil=>cases h
  | cons d r=>injection h with h;exact absurd h (by decide)
 have g4:Cr (45::r)=Cg:=if_pos (GJ (by decide))
 have g5:DJ (45::r)=Cg:=if_neg (by intro h;injection h with h;exact absurd h (by decide))
 have g6:EI (45::r)=Aj ⟨3,bytesOf [45],0,0⟩ 1:=by
  have e:marks.find? (λm=>(45::r).take m.length==m)=some [45]:=by
   simp[marks,List.find?]
  unfold EI
  rw[e]
  rfl
 unfold AQ
 rw[D8 g1,g2,D8 (show Cg.size=0 from rfl),g3,D8 (show Cg.size=0 from rfl),g4,D8 (show Cg.size=0 from rfl),g5,D8 (show Cg.size=0 from rfl),g6]
theorem pV:AQ Dw=Aj ⟨5,⟨#[]⟩,0,9218868437227405312⟩ 3:=rfl
theorem zT:AQ Gb=Aj ⟨5,⟨#[]⟩,0,9221120237041090560⟩ 3:=rfl
theorem xZ(p:UInt8->Bool)(a b:List UInt8)(h:∀c ∈ a,p c=true)(hb:∀c,b.head? = some c->p c=false):runN p (a++b)=a.length:=by
 induction a with
 | nil=>
  cases b with
  | nil=>rfl
  | cons c r=>exact GJ (hb c rfl)
 | cons c r ih=>rw[List.cons_append,GQ (h c (by simp)),ih (λx hx=>h x (by simp[hx]))];rfl
theorem rP(a:Nat):∃ (sg:UInt8) (ds:List UInt8),Qi a=112::sg::ds/\(sg=43\/sg=45)/\∀c ∈ ds,AV c=true:=by
 unfold Qi
 split
 ·exact⟨43,[48],rfl,.inl rfl,by decide⟩
 ·refine⟨_,_,rfl,?_,λc hc=>?_⟩
  ·split
   ·exact .inr rfl
   ·exact .inl rfl
  ·exact decide_eq_true (Pe _ c hc)
theorem qp(a:Nat)(h1:a<9218868437227405312):∀c ∈ Lj a,BA c=true:=by
 unfold Lj
 split
 ·intro c hc;cases hc
 ·rename_i h0
  exact gI _ (Mt a h0 h1).1
theorem sH(a:Nat)(h1:a<9218868437227405312):∃ (H:List UInt8) (sg:UInt8) (ds:List UInt8),CO a=48::120::(H++112::sg::ds)/\(∀c ∈ H,Dr c=true)/\(sg=43\/sg=45)/\∀c ∈ ds,AV c=true:=by
 obtain⟨sg,ds,h2,h3,h4⟩:=rP a
 refine⟨Qn a::(if Lj a=[] then [] else 46::Lj a),sg,ds,?_,?_,h3,h4⟩
 ·rw[mV a h1,h2];rfl
 ·intro c hc
  rcases List.mem_cons.1 hc with rfl|hc
  ·unfold Qn;split <;> decide
  ·split at hc
   ·cases hc
   ·rcases List.mem_cons.1 hc with rfl|hc
    ·decide
    ·unfold Dr;rw[qp a h1 c hc,Bool.or_true]
theorem pF(H:List UInt8)(sg:UInt8)(ds:List UInt8)(h1:∀c ∈ H,Dr c=true)(h2:sg=43\/sg=45)(h3:∀c ∈ ds,AV c=true):DC (48::120::(H++112::sg::ds))=(48::120::(H++112::sg::ds)).length:=by
 have e1:runN Dr (H++112::sg::ds)=H.length:=xZ _ _ _ h1 (by intro c hc;injection hc with hc;subst hc;decide)
 have e2:Ca (112::sg::ds)=2+ds.length:=by
  rcases h2 with rfl|rfl
  ·show 2+runN AV ds=_;rw[UR _ _ h3]
  ·show 2+runN AV ds=_;rw[UR _ _ h3]
 have e3:(48::120::(H++112::sg::ds)).drop (2+H.length)=112::sg::ds:=by
  rw[Nat.add_comm]
  show (H++112::sg::ds).drop H.length=_
  rw[List.drop_left]
 unfold DC
 have e0:(48::120::(H++112::sg::ds)).drop 2=H++112::sg::ds:=rfl
 rw[e0,e1,e3,e2]
 simp
 omega
theorem jC(a:Nat)(h1:a<9218868437227405312):Du (CO a)=((a:Int),0):=by
 have hn:IQ (a:Int)=false:=by unfold IQ;rw[decide_eq_false_iff_not];omega
 have e:Ec (a:Int)=CO a:=by
  unfold Ec
  rw[hn,if_neg (by decide),if_neg (by omega)]
  rfl
 have:=ZY (a:Int) (by omega) (by omega)
 rw[e] at this
 rw[this]
 unfold Oh
 rw[hn]
 rfl
theorem AAI(a:Nat)(h1:a<9218868437227405312):AQ (CO a)=Aj ⟨5,⟨#[]⟩,0,(a:Int)⟩ (CO a).length:=by
 obtain⟨H,sg,ds,e,h2,h3,h4⟩:=sH a h1
 have hr:=jC a h1
 have hd:=pF H sg ds h2 h3 h4
 rw[<- e] at hd
 have g1:(Eb (CO a)).size=0:=by rw[e];exact Qh 48 _ (by decide) (by decide)
 have g2:nameP (CO a)=Cg:=by rw[e];exact if_pos (.inr (show AV 48=true by decide))
 have g3:Cj (CO a)=Aj ⟨5,⟨#[]⟩,0,(a:Int)⟩ (CO a).length:=by
  have ht:(CO a).take 2=ER:=by rw[e];rfl
  unfold Cj
  rw[if_pos ht,hd,List.take_length,hr,if_pos rfl]
 unfold AQ
 rw[D8 g1,g2,D8 (show Cg.size=0 from rfl),g3,Gj]
 show ¬ (CO a).length=0
 rw[e]
 simp
section
variable {f a:Nat} {l:List UInt8} {p:Pc}
theorem X6(h:l.length<=a):Dx (f+1) l a=[⟨Eo,a,0,0⟩]:=by unfold Dx;exact if_pos h
theorem nO(h:¬l.length<=a)(hp:AQ (l.drop a)=p)(h1:¬p.size=0)(h2:¬p.code=0):Dx (f+1) l a=[⟨Cy,0,p.code,a⟩]:=by
 unfold Dx;rw[if_neg h,hp,if_neg h1,if_pos h2]
theorem Uf(h:¬l.length<=a)(hp:AQ (l.drop a)=p)(h1:¬p.size=0)(h2:p.code=0)(h3:¬p.t.kind=0):Dx (f+1) l a=⟨p.t,a,0,0⟩::Dx f l (a+p.size):=by
 conv=>lhs;unfold Dx
 rw[if_neg h,hp,if_neg h1,if_neg (by rw[h2];decide),if_pos h3]
end
theorem O7(l:List UInt8)(t:Tk)(hp:AQ l=Aj t l.length)(h0:0<l.length)(h1:l.length<=65536)(hk:¬t.kind=0):Au l=[⟨t,0,0,0⟩,⟨Eo,(l.length:Nat),0,0⟩]:=by
 unfold Au
 rw[if_neg (by omega)]
 have hp':AQ (l.drop 0)=Aj t l.length:=hp
 rw[Uf (by omega) hp' (show ¬l.length=0 by omega) rfl hk]
 obtain⟨n,hn⟩:∃n,l.length=n+1:=⟨l.length-1,by omega⟩
 show _::Dx l.length l (0+l.length)=_
 have e:Dx l.length l (0+l.length)=[⟨Eo,(l.length:Nat),0,0⟩]:=by
  have:=X6 (f:=n) (l:=l) (a:=0+l.length) (by omega)
  rw[<- hn] at this
  rw[this,Nat.zero_add]
 rw[e]
 rfl
theorem bU(r:List UInt8)(h1:r.length+1<=65536):Au (45::r)=⟨⟨3,bytesOf [45],0,0⟩,0,0,0⟩::Dx (r.length+1) (45::r) 1:=by
 unfold Au
 rw[if_neg (by simp;omega)]
 have hp:AQ ((45::r).drop 0)=Aj ⟨3,bytesOf [45],0,0⟩ 1:=ACV r
 rw[Uf (by simp) hp (by decide) rfl (by decide)]
 rfl
theorem WC(r:List UInt8)(t:Tk)(hp:AQ r=Aj t r.length)(h0:0<r.length)(h1:r.length+1<=65536)(hk:¬t.kind=0):Au (45::r)=[⟨⟨3,bytesOf [45],0,0⟩,0,0,0⟩,⟨t,1,0,0⟩,⟨Eo,((r.length+1:Nat):Int),0,0⟩]:=by
 rw[bU r h1]
 have hp':AQ ((45::r).drop 1)=Aj t r.length:=hp
 rw[Uf (a:=1) (l:=45::r) (show ¬r.length+1<=1 by omega) hp' (show ¬r.length=0 by omega) rfl hk]
 obtain⟨n,hn⟩:∃n,r.length=n+1:=⟨r.length-1,by omega⟩
 show _::_::Dx r.length (45::r) (1+r.length)=_
 have e:Dx r.length (45::r) (1+r.length)=[⟨Eo,((r.length+1:Nat):Int),0,0⟩]:=by
  have:=X6 (f:=n) (l:=45::r) (a:=1+r.length) (by simp;omega)
  rw[<- hn] at this
  rw[this,Nat.add_comm 1]
 rw[e]
 rfl
theorem ACY(r:List UInt8)(c:Int)(hp:AQ r=DF r.length c)(h0:0<r.length)(h1:r.length+1<=65536)(hc:¬c=0):Au (45::r)=[⟨⟨3,bytesOf [45],0,0⟩,0,0,0⟩,⟨Cy,0,c,1⟩]:=by
 rw[bU r h1]
 have hp':AQ ((45::r).drop 1)=DF r.length c:=hp
 rw[nO (a:=1) (l:=45::r) (show ¬r.length+1<=1 by omega) hp' (show ¬r.length=0 by omega) hc]
 rfl
theorem OO(n:Nat):∀c ∈ BU n,AV c=true:=λc hc=>(List.all_eq_true.1 (Tt n)) c hc
theorem O9(n:Nat):BU n≠[]:=OL n
theorem aM(n:Nat)(h:n<9223372036854775808):Dg (BU n)=((n:Int),0):=by
 have e:Dz (n:Int)=BU n:=by unfold Dz;rw[if_neg (by omega)];simp
 have:=AAy (n:Int) (by omega) (by omega)
 rwa [e] at this
theorem Y6(d:List UInt8)(hd:∀c ∈ d,AV c=true):Dg d=if 64<d.length then (0,2) else FQ false d:=by
 unfold Dg
 split
 ·rfl
 ·split
  ·rename_i q
   exact absurd (hd 45 (by simp)) (by decide)
  ·rfl
theorem sW(n:Nat)(h:9223372036854775808<=n):AQ (BU n)=DF (BU n).length 62:=by
 rw[VU _ (OO _) (O9 _)]
 refine if_neg ?_
 rw[Y6 _ (OO _)]
 split
 ·decide
 ·unfold FQ
  split
  ·rw[if_neg (by rw[if_neg (by decide),QL];omega)]
   decide
  ·decide
theorem aB(a:Nat)(h:a<=9218868437227405312):AQ (CO a)=Aj ⟨5,⟨#[]⟩,0,(a:Int)⟩ (CO a).length:=by
 by_cases c:a=9218868437227405312
 ·subst c
  have e:CO 9218868437227405312=Dw:=if_pos rfl
  rw[e]
  exact pV
 ·exact AAI a (by omega)
inductive O1 (b:Bool) (i u:Int) (l:List UInt8):Prop where
 | least (h1:b=true) (h2:i = -9223372036854775808) (h3:Au l=[⟨⟨3,bytesOf [45],0,0⟩,0,0,0⟩,⟨Cy,0,62,1⟩]):O1 b i u l
 | minus (t:Tk) (r:List UInt8) (h1:b=true->i ≠ -9223372036854775808) (h2:l=45::r) (h3:Au l=[⟨⟨3,bytesOf [45],0,0⟩,0,0,0⟩,⟨t,1,0,0⟩,⟨Eo,(l.length:Nat),0,0⟩]):O1 b i u l
 | plain (t:Tk) (h1:b=true->i ≠ -9223372036854775808) (h2:l.head? ≠ some 45) (h3:Au l=[⟨t,0,0,0⟩,⟨Eo,(l.length:Nat),0,0⟩]) (h4:b=true->t.kind=4/\t.int=i) (h5:b=false->t.kind=5/\t.bits=(Du l).1):O1 b i u l
theorem ABy(b:Bool)(i u:Int)(i0:-9223372036854775808<=i)(i1:i<=9223372036854775807)(u0:0<=u)(u1:u<18446744073709551616):O1 b i u (KH b i u)/\0<(KH b i u).length/\(KH b i u).length<=64:=by
 cases b with
 | true=>
  have e:KH true i u=Dz i:=rfl
  rw[e]
  have hl:=Xe i i0 (by omega)
  have hne:∀n,0<(BU n).length:=λn=>by
   have:=O9 n
   cases h:BU n with
   | nil=>exact absurd h this
   | cons a q=>simp
  by_cases c:i<0
  ·have e2:Dz i=45::BU i.natAbs:=if_pos c
   rw[e2] at hl ⊢
   refine⟨?_,by simp,by omega⟩
   by_cases c2:i = -9223372036854775808
   ·refine .least rfl c2 (ACY _ 62 ?_ (hne _) (by simp at hl;omega) (by decide))
    subst c2
    exact sW _ (by decide)
   ·refine .minus ⟨4,⟨#[]⟩,(i.natAbs:Int),0⟩ _ (λ_=>c2) rfl ?_
    ·have:=WC (BU i.natAbs) ⟨4,⟨#[]⟩,(i.natAbs:Int),0⟩ (by rw[VU _ (OO _) (O9 _),aM _ (by omega)];rfl) (hne _) (by simp at hl;omega) (show ¬ (4:Int)=0 by decide)
     rw[this]
     simp
  ·have e2:Dz i=BU i.natAbs:=if_neg c
   rw[e2] at hl ⊢
   refine⟨?_,hne _,by omega⟩
   refine .plain ⟨4,⟨#[]⟩,(i.natAbs:Int),0⟩ (λ_=>by omega) ?_ ?_ (λ_=>⟨rfl,by show (i.natAbs:Int)=i;omega⟩) (λh=>by cases h)
   ·intro h
    cases hd:BU i.natAbs with
    | nil=>rw[hd] at h;cases h
    | cons a q=>
     rw[hd] at h
     simp at h
     have:=OO i.natAbs a (by rw[hd];simp)
     subst h
     revert this
     decide
   ·exact O7 _ _ (by rw[VU _ (OO _) (O9 _),aM _ (by omega)];rfl) (hne _) (by omega) (show ¬ (4:Int)=0 by decide)
 | false=>
  have e:KH false i u=Ec u:=rfl
  rw[e]
  have hl:=xJ u u0 u1
  have hrf:=ZY u u0 u1
  unfold Ec at hl hrf ⊢
  by_cases c:IQ u=true
  ·rw[if_pos c] at hl hrf ⊢
   refine⟨.plain _ (λh=>by cases h) (by decide) (O7 _ _ zT (by decide) (by decide) (by decide)) (λh=>by cases h) (λ_=>⟨rfl,?_⟩),by decide,by decide⟩
   kernel_rfl
  ·rw[if_neg c] at hl hrf ⊢
   have nb:u%9223372036854775808<=9218868437227405312:=by
    unfold IQ at c
    simp only[decide_eq_true_eq,Int.not_lt] at c
    exact c
   have hpl:∀n,0<(CO n).length:=λn=>by rcases QH n with h|h <;> (cases hq:CO n <;> simp_all)
   by_cases c2:9223372036854775808<=u
   ·rw[if_pos c2] at hl hrf ⊢
    refine⟨?_,by simp,by omega⟩
    refine .minus ⟨5,⟨#[]⟩,0,((u-9223372036854775808).toNat:Int)⟩ _ (λh=>by cases h) rfl ?_
    have:=WC (CO (u-9223372036854775808).toNat) _ (aB _ (by omega)) (hpl _) (by simp at hl;omega) (show ¬ (5:Int)=0 by decide)
    rw[this]
    simp
   ·rw[if_neg c2] at hl hrf ⊢
    refine⟨?_,hpl _,by omega⟩
    refine .plain ⟨5,⟨#[]⟩,0,(u.toNat:Int)⟩ (λh=>by cases h) ?_ (O7 _ _ (aB _ (by omega)) (hpl _) (by omega) (show ¬ (5:Int)=0 by decide)) (λh=>by cases h) (λ_=>⟨rfl,?_⟩)
    ·rcases QH u.toNat with h|h <;> rw[h] <;> decide
    ·rw[hrf]
     show (u.toNat:Int)=Oh u
     unfold Oh
     rw[if_neg c]
     omega
open Go.ChangeShapes Go.WideShapes Go.RowKit Go.Shelf
structure BW (w:World) where
 w':World
 h:Below w.heap.size w w'
theorem wp_region_quiet_below{id:Nat}{Q:Exit->Act->World->Prop}{a:Act}{w:World}{l:List Oper}(hm:Tryz.prog.follows .mixedOrders=true)(hB:Region.lexB .any l.toArray=true)
  (h:wpQuiet Tryz.prog l.toArray (λw'=>∃p:BW w,w'=p.w') (λa'=>∀w',(∃p:BW w,w'=p.w')->Q .normal a' w') l a):(Code.region id l.toArray true).wp Tryz.prog Q a w:=
 wp_region_quiet (C:=λw'=>∃p:BW w,w'=p.w') hm hB ⟨⟨w.drew,(Below.refl _ w).drew⟩,rfl⟩ (by simpa using h)
theorem BW.calls{P:Program}{f:FuncId}{args:Array Value}{w:World}{p:BW w}{v:Value}(h:Calls P f args p.w' λe w'=>e=.returned v/\Below p.w'.heap.size p.w' w'):Calls P f args p.w' λe w''=>e=.returned v/\∃p':BW w,w''=p'.w':=
 h.mono λ_ w'' ⟨he,hB⟩=>⟨he,⟨w'',p.h.trans (hB.mono p.h.size)⟩,rfl⟩
theorem BW.cell{w:World}{a:Addr}{v:Value}(h:w.cell? a=some v)(p:BW w):p.w'.cell? a=some v:=It.GX p.h h
structure Sx (w W:World):Prop where
 bel:Below w.heap.size w W
 tabs:Tabs W
 marks:MarksIn W
theorem Sx.go{w W W':World}(h:Sx w W)(hb:Below W.heap.size W W'):Sx w W':=⟨h.bel.trans (hb.mono h.bel.size),h.tabs.below hb,h.marks.below hb⟩
theorem Sx.alloc{w W:World}(h:Sx w W)(o:Obj):Sx w (W.alloc o):=h.go ((Below.refl _ W).alloc (Nat.le_refl _) o)
theorem Sx.refl{w:World}(ht:Tabs w)(hm:MarksIn w):Sx w w:=⟨Below.refl _ w,ht,hm⟩
end Go.Proofs.YtjplieobnknnpaaGreatDoor.W
