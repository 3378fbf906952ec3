import Derived.Test.YtjplieobnknnpaaGreatDoorCeAJ
import Derived.Test.YtjplieobnknnpaaGreatDoorKR
import Derived.Test.YtjplieobnknnpaaGreatDoorKJ
open List renaming length_drop → z2z, length_nil → z3z, mem_cons → z4z, length_pos_iff → z5z
open Nat renaming le_refl → z0z, le_add_right → z1z
set_option maxRecDepth 1000000
set_option maxHeartbeats 8000000
namespace Go.Proofs.YtjplieobnknnpaaGreatDoor.W.Tr
open Go.ChangeShapes Go.WideShapes Go.RowKit Go.Shelf Go.ChangeMaps Ck
set_option linter.unusedVariables false
section
variable {B:Nat} {w w':World} {pb:Nat} {L:List (Nd × Nat)} {E:List Nat} {mr:Int} {pm:List (ByteArray × Nat)} {lv ev:Value} {mp mt mc:Nat} {ov sv pv:Value} {bs:List Nat} {c:Sc}
theorem rA(h:Pz B w pb L E mr pm lv ev mp mt mc ov sv pv bs c)(a:Nat){n:Nd}{kids:Nat}(hn:L[a]? = some (n,kids))(hf:c.opn.length<99999/\c.scs.length<199990/\c.lps.length<99990)(hcc:∀p ∈ c.cst,p.2<=1000000)(hO:∀o ∈ c.opn,o.1<L.length){c1:Sc}(hc1:EO L c a n kids=some c1) :
  Calls Tryz.prog 40 #[.pointer (some ⟨pb,0,none⟩),.int .i64 (a:Nat)] w λe w'=>e=.returned (.tuple #[])/\Below B w w'/\A9 w w'/\∃ov' sv' pv' bs',Pz B w' pb L E mr pm lv ev mp mt mc ov' sv' pv' bs' c1:=by
 unfold EO at hc1
 simp only at hc1
 split at hc1
 ·rename_i k
  cases hc1
  exact vZ h a hn hf k
 split at hc1
 ·rename_i k
  cases hc1
  exact AAb h a hn hf k
 split at hc1
 ·rename_i k
  split at hc1
  ·cases hc1
  ·rename_i s r e
   cases hc1
   exact ACG h a hn hf k e
 split at hc1
 ·rename_i k
  split at hc1
  ·cases hc1
  ·rename_i o r e
   obtain⟨p,hp⟩:∃p,L[o.1]? = some p:=⟨_,List.getElem?_eq_getElem (hO o (by rw[e];simp))⟩
   obtain⟨m,kd⟩:=p
   have hka:Jl L o.1=m.kind:=by unfold Jl;rw[hp]
   have hta:Me L o.1=m.text:=by unfold Me;rw[hp]
   rw[hka,hta] at hc1
   split at hc1
   ·rename_i hm
    cases hc1
    have:=jV h a hn hf k (o:=o) (r:=r) e hp hm
    exact this
   ·rename_i hm
    cases hc1
    have:=ACg h a hn hf k (o:=o) (r:=r) e hp hm
    exact this
 split at hc1
 ·rename_i k
  cases hc1
  exact AAD h a hn hf k
 split at hc1
 ·rename_i k
  cases hc1
  exact lK h a hn hf k
 split at hc1
 ·rename_i k
  split at hc1
  ·cases hc1
  ·rename_i s r e
   cases hc1
   have:=jw h a hn hf k e
   have hl:c.lps.length=r.length+1:=by rw[e];rfl
   rw[<- hl] at this
   exact this
 split at hc1
 ·rename_i k
  cases hc1
  exact lN h a hn hf k hcc
 ·cases hc1
  refine AAT h a hn hf ?_
  rename_i k1 k2 k3 k4 k5 k6 k7 k8
  omega
end
section
variable (ar:ByteArray->Option Nat) (pm:List (ByteArray × Nat)) (L:List (Nd × Nat)) (E:List Nat) (R:List (Nat × Nat)) (mr:Int)
def Dq:Fo->Nat->Sc->Option (Sum (Int × Int) Sc)
 | .nil,b,c=>some (.inr c)
 | .cons n ks r,b,c=>
  if Ez ar pm E c b n ks.len=0 then (match EO L c b n ks.len with
   | none=>none
   | some c1=>(match Dq ks (b+1) c1 with
    | none=>none
    | some (.inl f)=>some (.inl f)
    | some (.inr c2)=>(match EH L c2 with
     | none=>none
     | some c3=>if EZ L R mr c3 b=0 then Dq r (b+1+(AJ ks).length) c3 else some (.inl (EZ L R mr c3 b,KY L b)))))
  else some (.inl (Ez ar pm E c b n ks.len,n.a))
end
theorem NY{L:List (Nd × Nat)}{c c1:Sc}{a:Nat}{n:Nd}{kids:Nat}(h:EO L c a n kids=some c1):c1.opn=(a,c.scs.length,c.lps.length)::c.opn:=by
 unfold EO at h
 simp only at h
 split at h
 ·cases h;rfl
 split at h
 ·cases h;rfl
 split at h
 ·split at h
  ·cases h
  ·cases h;rfl
 split at h
 ·split at h
  ·cases h
  ·split at h
   ·cases h;rfl
   ·cases h;rfl
 split at h
 ·cases h;rfl
 split at h
 ·cases h;rfl
 split at h
 ·split at h
  ·cases h
  ·cases h;rfl
 split at h
 ·cases h;rfl
 ·cases h;rfl
theorem Ny{L:List (Nd × Nat)}{c c1:Sc}{o:Nat × Nat × Nat}{r:List (Nat × Nat × Nat)}(ho:c.opn=o::r)(h:EH L c=some c1):c1.opn=r:=by
 unfold EH at h
 rw[ho] at h
 simp only at h
 split at h
 ·split at h
  ·cases h
  ·cases h;rfl
 ·cases h;rfl
section
variable {ar:ByteArray->Option Nat} {pm:List (ByteArray × Nat)} {L:List (Nd × Nat)} {E:List Nat} {R:List (Nat × Nat)} {mr:Int}
theorem Li:∀ (f:Fo) (b:Nat) (c c':Sc),Dq ar pm L E R mr f b c=some (.inr c')->c'.opn=c.opn
 | .nil,b,c,c',h=>by
  simp only[Dq,Option.some.injEq,Sum.inr.injEq] at h
  rw[h]
 | .cons n ks r,b,c,c',h=>by
  unfold Dq at h
  split at h
  ·split at h
   ·cases h
   ·rename_i c1 h1
    split at h
    ·cases h
    ·cases h
    ·rename_i c2 h2
     split at h
     ·cases h
     ·rename_i c3 h3
      split at h
      ·have e1:=NY h1
       have e2:=Li ks _ _ _ h2
       have e3:=Ny (e2.trans e1) h3
       rw[Li r _ _ _ h,e3]
      ·cases h
  ·cases h
theorem Nw(n:Nd)(ks r:Fo)(b:Nat)(c:Sc):Dq ar pm L E R mr (.cons n ks r) b c=(if Ez ar pm E c b n ks.len=0 then (match EO L c b n ks.len with
   | none=>none
   | some c1=>(match Dq ar pm L E R mr ks (b+1) c1 with
    | none=>none
    | some (.inl f)=>some (.inl f)
    | some (.inr c2)=>(match EH L c2 with
     | none=>none
     | some c3=>if EZ L R mr c3 b=0 then Dq ar pm L E R mr r (b+1+(AJ ks).length) c3 else some (.inl (EZ L R mr c3 b,KY L b)))))
  else some (.inl (Ez ar pm E c b n ks.len,n.a))):=by
 rw[Dq]
theorem Xp(a f:Nat)(c:Sc){o:Nat × Nat × Nat}{r:List (Nat × Nat × Nat)}(ho:c.opn=o::r)(h:IV E o.1=a+1):Ga L E R mr a (f+1) c=(match EH L c with
    | none=>none
    | some c'=>if EZ L R mr c' o.1=0 then Ga L E R mr a f c' else some (.inl (EZ L R mr c' o.1,KY L o.1))):=by
 rw[Ga,ho]
 simp only
 rw[if_pos h]
 cases EH L c <;> rfl
theorem WW:∀ (f g:Fo) (b:Nat) (c:Sc),Dq ar pm L E R mr (f.app g) b c=(match Dq ar pm L E R mr f b c with
  | none=>none
  | some (.inl x)=>some (.inl x)
  | some (.inr c')=>Dq ar pm L E R mr g (b+(AJ f).length) c')
 | .nil,g,b,c=>by simp[Fo.app,Dq,AJ]
 | .cons n ks r,g,b,c=>by
  simp only[Fo.app]
  rw[Nw,Nw]
  by_cases hf:Ez ar pm E c b n ks.len=0
  ·rw[if_pos hf,if_pos hf]
   cases h1:EO L c b n ks.len with
   | none=>rfl
   | some c1=>
    simp only
    cases h2:Dq ar pm L E R mr ks (b+1) c1 with
    | none=>rfl
    | some x=>
     cases x with
     | inl x=>rfl
     | inr c2=>
      simp only
      cases h3:EH L c2 with
      | none=>rfl
      | some c3=>
       simp only
       by_cases hbh:EZ L R mr c3 b=0
       ·rw[if_pos hbh,if_pos hbh,WW r g]
        have e:b+1+(AJ ks).length+(AJ r).length=b+(AJ (.cons n ks r)).length:=by simp[AJ];omega
        rw[e]
       ·rw[if_neg hbh,if_neg hbh]
  ·rw[if_neg hf,if_neg hf]
theorem Xl{a f:Nat}{c:Sc}(h:∀o ∈ c.opn,IV E o.1≠a+1):Ga L E R mr a f c=some (.inr c):=by
 cases f with
 | zero=>rfl
 | succ f=>
  unfold Ga
  cases ho:c.opn with
  | nil=>rfl
  | cons o r=>
   simp only
   rw[if_neg (h o (by rw[ho];simp))]
theorem AAn{a x:Nat}(h:E[a]? = some x):IV E a=x:=by unfold IV;rw[h];rfl
theorem Uz:∀ (f:Fo) (b k:Nat) (c:Sc),f ≠ .nil->Df L E b f->(∀o ∈ c.opn,b+(AJ f).length<=IV E o.1)->IG ar pm L E R mr ((AJ f).length+k) b c=(match Dq ar pm L E R mr f b c with
  | none=>none
  | some (.inl x)=>some x
  | some (.inr c')=>(match Ga L E R mr (b+(AJ f).length-1) c'.opn.length c' with
   | none=>none
   | some (.inl x)=>some x
   | some (.inr c2)=>IG ar pm L E R mr k (b+(AJ f).length) c2))
 | .nil,b,k,c,h,_,_=>absurd rfl h
 | .cons n ks r,b,k,c,_,hl,ho=>by
  obtain⟨hL,hE⟩:=hl.head
  have hN:(AJ (.cons n ks r)).length=1+(AJ ks).length+(AJ r).length:=by simp[AJ];omega
  rw[hN] at ho ⊢
  rw[show 1+(AJ ks).length+(AJ r).length+k=((AJ ks).length+((AJ r).length+k))+1 by omega]
  rw[IG,Nw,hL]
  simp only
  by_cases hf:Ez ar pm E c b n ks.len=0
  ·rw[if_pos hf,if_pos hf]
   cases h1:EO L c b n ks.len with
   | none=>rfl
   | some c1=>
    simp only
    have e1:=NY h1
    have hb:IV E b=b+1+(AJ ks).length:=AAn hE
    -- what comes behind the node is left
    have tail:∀c2,c2.opn=c1.opn->(match Ga L E R mr (b+(AJ ks).length) c2.opn.length c2 with
      | none=>none
      | some (.inl x)=>some x
      | some (.inr c4)=>IG ar pm L E R mr ((AJ r).length+k) (b+1+(AJ ks).length) c4)=(match (match EH L c2 with
       | none=>none
       | some c3=>if EZ L R mr c3 b=0 then Dq ar pm L E R mr r (b+1+(AJ ks).length) c3 else some (.inl (EZ L R mr c3 b,KY L b))) with
      | none=>none
      | some (.inl x)=>some x
      | some (.inr c')=>(match Ga L E R mr (b+(1+(AJ ks).length+(AJ r).length)-1) c'.opn.length c' with
       | none=>none
       | some (.inl x)=>some x
       | some (.inr c2)=>IG ar pm L E R mr k (b+(1+(AJ ks).length+(AJ r).length)) c2)):=by
     intro c2 e2
     have e2':=e2.trans e1
     have hlen:c2.opn.length=c.opn.length+1:=by rw[e2'];rfl
     rw[hlen]
     rw[Xp _ _ _ e2' (by rw[hb];omega)]
     simp only
     cases h3:EH L c2 with
     | none=>rfl
     | some c3=>
      simp only
      have e3:=Ny e2' h3
      by_cases hbh:EZ L R mr c3 b=0
      ·rw[if_pos hbh,if_pos hbh]
       cases r with
       | nil=>
        simp only[Dq,AJ,z3z,Nat.add_zero,Nat.zero_add]
        rw[show b+(1+(AJ ks).length)-1=b+(AJ ks).length by omega,show b+(1+(AJ ks).length)=b+1+(AJ ks).length by omega,e3]
       | cons n' ks' r'=>
        have hpos:0<(AJ (.cons n' ks' r')).length:=by simp[AJ]
        rw[Xl (λo hoo=>by rw[e3] at hoo;have:=ho o hoo;omega)]
        simp only
        rw[Uz (.cons n' ks' r') _ k c3 (by simp) hl.rest (λo hoo=>by rw[e3] at hoo;have:=ho o hoo;omega)]
        rw[show b+1+(AJ ks).length+(AJ (.cons n' ks' r')).length=b+(1+(AJ ks).length+(AJ (.cons n' ks' r')).length) by omega]
      ·rw[if_neg hbh,if_neg hbh]
    cases ks with
    | nil=>
     have:=tail c1 rfl
     simp only[AJ,z3z,Nat.add_zero,Nat.zero_add] at this ⊢
     simp only[Dq]
     exact this
    | cons n' ks' r'=>
     have hpos:0<(AJ (.cons n' ks' r')).length:=by simp[AJ]
     rw[Xl (a:=b) (λo hoo=>by
      rw[e1] at hoo
      rcases z4z.1 hoo with rfl|hoo
      ·simp only;omega
      ·have:=ho o hoo;omega)]
     simp only
     rw[Uz (.cons n' ks' r') _ _ c1 (by simp) hl.kids (λo hoo=>by
      rw[e1] at hoo
      rcases z4z.1 hoo with rfl|hoo
      ·simp only;omega
      ·have:=ho o hoo;omega)]
     cases h2:Dq ar pm L E R mr (.cons n' ks' r') (b+1) c1 with
     | none=>rfl
     | some x=>
      cases x with
      | inl x=>rfl
      | inr c2=>
       simp only
       have:=tail c2 (Li _ _ _ _ h2)
       rw[show b+1+(AJ (.cons n' ks' r')).length-1=b+(AJ (.cons n' ks' r')).length by omega]
       exact this
  ·rw[if_neg hf,if_neg hf]
end
theorem ABs(ar:ByteArray->Option Nat)(mr:Int)(n:Nd)(ks:Fo):Jf ar mr (.cons n ks .nil)=(match Dq ar (Fg ks []) (AJ (.cons n ks .nil)) (Ed 0 (.cons n ks .nil)) (Gs 1 ks) mr (.cons n ks .nil) 0 ⟨[],[],[Fy 1 ks []],[],[]⟩ with
  | none=>none
  | some (.inl x)=>some x
  | some (.inr _)=>some (0,0)):=by
 unfold Jf
 have h:=Uz (ar:=ar) (pm:=Fg ks []) (R:=Gs 1 ks) (mr:=mr) (.cons n ks .nil) 0 0 ⟨[],[],[Fy 1 ks []],[],[]⟩ (by simp) (Nz _) (λo ho=>by cases ho)
 rw[Nat.add_zero] at h
 show IG ar (Fg ks []) (AJ (.cons n ks .nil)) (Ed 0 (.cons n ks .nil)) (Gs 1 ks) mr (AJ (.cons n ks .nil)).length 0 ⟨[],[],[Fy 1 ks []],[],[]⟩=_
 rw[h]
 cases h1:Dq ar (Fg ks []) (AJ (.cons n ks .nil)) (Ed 0 (.cons n ks .nil)) (Gs 1 ks) mr (.cons n ks .nil) 0 ⟨[],[],[Fy 1 ks []],[],[]⟩ with
 | none=>rfl
 | some x=>
  cases x with
  | inl x=>rfl
  | inr c=>
   have e:=Li _ _ _ _ h1
   simp only at e
   simp only[e,z3z,Ga]
   rfl
theorem tQ(L:List (Nd × Nat))(c:Sc)(a:Nat)(n:Nd)(kids:Nat)(hs:c.scs≠[])(ho:c.opn≠[])(hl:n.kind=12->c.lps≠[]) :
  ∃c1,EO L c a n kids=some c1/\c.scs.length<=c1.scs.length/\c1.scs.length<=c.scs.length+2/\c.lps.length<=c1.lps.length/\c1.lps.length<=c.lps.length+1/\(n.kind=11->c1.lps≠[]):=by
 unfold EO
 simp only
 split
 ·exact⟨_,rfl,z0z _,z1z _ _,z0z _,z1z _ _,λe=>by omega⟩
 split
 ·exact⟨_,rfl,by simp,by simp,z0z _,z1z _ _,λe=>by omega⟩
 split
 ·cases h:c.scs with
  | nil=>exact absurd h hs
  | cons s r=>exact⟨_,rfl,by simp,by simp,z0z _,z1z _ _,λe=>by omega⟩
 split
 ·cases h:c.opn with
  | nil=>exact absurd h ho
  | cons o r=>
   simp only
   split
   ·exact⟨_,rfl,by simp;omega,by simp,z0z _,z1z _ _,λe=>by omega⟩
   ·exact⟨_,rfl,by simp,by simp,z0z _,z1z _ _,λe=>by omega⟩
 split
 ·exact⟨_,rfl,z0z _,z1z _ _,by simp,by simp,λe=>by omega⟩
 split
 ·exact⟨_,rfl,z0z _,z1z _ _,by simp,by simp,λe=>by simp⟩
 split
 ·rename_i h12
  cases h:c.lps with
  | nil=>exact absurd h (hl h12)
  | cons s r=>exact⟨_,rfl,z0z _,z1z _ _,by simp,by simp,λe=>by omega⟩
 split
 ·exact⟨_,rfl,z0z _,z1z _ _,z0z _,z1z _ _,λe=>by omega⟩
 ·exact⟨_,rfl,z0z _,z1z _ _,z0z _,z1z _ _,λe=>by omega⟩
theorem eH(L:List (Nd × Nat))(c:Sc){a s l:Nat}{r:List (Nat × Nat × Nat)}(ho:c.opn=(a,s,l)::r)(hs0:0<s)(hs:s<=c.scs.length)(hl:l<=c.lps.length) :
  ∃c1,EH L c=some c1/\c1.scs.length=s/\c1.lps.length=l:=by
 unfold EH
 rw[ho]
 simp only
 have h1:(c.scs.drop (c.scs.length-s)).length=s:=by rw[z2z];omega
 have h2:(c.lps.drop (c.lps.length-l)).length=l:=by rw[z2z];omega
 split
 ·cases h:c.scs.drop (c.scs.length-s) with
  | nil=>rw[h] at h1;simp at h1;omega
  | cons t q=>
   rw[h] at h1
   exact⟨_,rfl,by simpa using h1,h2⟩
 ·exact⟨_,rfl,h1,h2⟩
section
variable (ar:ByteArray->Option Nat) (pm:List (ByteArray × Nat)) (L:List (Nd × Nat)) (E:List Nat) (R:List (Nat × Nat)) (mr:Int)
def Keeps(lb:Bool)(f:Fo):Prop:=∀ (b:Nat) (c:Sc),c.scs≠[]->c.opn≠[]->(lb=true->c.lps≠[])->∃res,Dq ar pm L E R mr f b c=some res/\∀c',res=.inr c'->c'.scs.length=c.scs.length/\c'.lps.length=c.lps.length
end
section
variable {ar:ByteArray->Option Nat} {pm:List (ByteArray × Nat)} {L:List (Nd × Nat)} {E:List Nat} {R:List (Nat × Nat)} {mr:Int}
theorem Jm(lb:Bool):Keeps ar pm L E R mr lb .nil:=λb c _ _ _=>⟨_,rfl,λc' e=>by cases e;exact⟨rfl,rfl⟩⟩
theorem Keeps.weak{f:Fo}{lb:Bool}(h:Keeps ar pm L E R mr false f):Keeps ar pm L E R mr lb f:=λb c h1 h2 _=>h b c h1 h2 (λe=>by cases e)
theorem V8{α β:Type}{x:List α}{y:List β}(h:x.length=y.length)(hy:y≠[]):x≠[]:=by
 rintro rfl
 exact hy (List.length_eq_zero_iff.1 h.symm)
theorem Fe{lb:Bool}{f g:Fo}(hf:Keeps ar pm L E R mr lb f)(hg:Keeps ar pm L E R mr lb g):Keeps ar pm L E R mr lb (f.app g):=by
 intro b c h1 h2 h3
 obtain⟨res,e1,k1⟩:=hf b c h1 h2 h3
 rw[WW,e1]
 cases res with
 | inl x=>exact⟨_,rfl,λc' e=>by cases e⟩
 | inr c'=>
  obtain⟨q1,q2⟩:=k1 c' rfl
  have q3:=Li _ _ _ _ e1
  obtain⟨res2,e2,k2⟩:=hg (b+(AJ f).length) c' (V8 q1 h1) (by rw[q3];exact h2) (λe=>V8 q2 (h3 e))
  refine⟨res2,e2,λc2 e=>?_⟩
  obtain⟨r1,r2⟩:=k2 c2 e
  exact⟨r1.trans q1,r2.trans q2⟩
theorem Rl{lb kb:Bool}(n:Nd)(ks:Fo)(hn:n.kind=12->lb=true)(hk:Keeps ar pm L E R mr kb ks)(hkb:kb=true->n.kind=11):Keeps ar pm L E R mr lb (.cons n ks .nil):=by
 intro b c h1 h2 h3
 rw[Nw]
 by_cases hf:Ez ar pm E c b n ks.len=0
 ·rw[if_pos hf]
  obtain⟨c1,e1,p1,p2,p3,p4,p5⟩:=tQ L c b n ks.len h1 h2 (λe=>h3 (hn e))
  rw[e1]
  simp only
  have eo:=NY e1
  have hpos:0<c.scs.length:=z5z.2 h1
  obtain⟨res,e2,k2⟩:=hk (b+1) c1 (z5z.1 (by omega)) (by rw[eo];simp) (λe=>p5 (hkb e))
  rw[e2]
  cases res with
  | inl x=>exact⟨_,rfl,λc' e=>by cases e⟩
  | inr c2=>
   simp only
   obtain⟨q1,q2⟩:=k2 c2 rfl
   have eo2:=(Li _ _ _ _ e2).trans eo
   obtain⟨c3,e3,r1,r2⟩:=eH L c2 eo2 hpos (by omega) (by omega)
   rw[e3]
   simp only
   split
   ·exact⟨_,rfl,λc' e=>by cases e;exact⟨r1,r2⟩⟩
   ·exact⟨_,rfl,λc' e=>by cases e⟩
 ·rw[if_neg hf]
  exact⟨_,rfl,λc' e=>by cases e⟩
theorem ABq(n:Nd)(ks:Fo)(hn:n.kind=1)(hk:Keeps ar pm L E R mr false ks)(c:Sc)(hs:c.scs≠[])(b:Nat):∃res,Dq ar pm L E R mr (.cons n ks .nil) b c=some res:=by
 rw[Nw]
 by_cases hf:Ez ar pm E c b n ks.len=0
 ·rw[if_pos hf]
  have e1:EO L c b n ks.len=some { c with opn:=(b,c.scs.length,c.lps.length)::c.opn }:=by
   unfold EO
   simp only
   rw[if_neg (by omega),if_neg (by omega),if_neg (by omega),if_neg (by omega),if_neg (by omega),if_neg (by omega),if_neg (by omega),if_neg (by omega)]
  rw[e1]
  simp only
  have hpos:0<c.scs.length:=z5z.2 hs
  obtain⟨res,e2,k2⟩:=hk (b+1) { c with opn:=(b,c.scs.length,c.lps.length)::c.opn } hs (by simp) (λe=>by cases e)
  rw[e2]
  cases res with
  | inl x=>exact⟨_,rfl⟩
  | inr c2=>
   simp only
   obtain⟨q1,q2⟩:=k2 c2 rfl
   have eo2:=Li _ _ _ _ e2
   simp only at q1 q2 eo2
   obtain⟨c3,e3,r1,r2⟩:=eH L c2 eo2 hpos (by omega) (by omega)
   rw[e3]
   simp only
   split
   ·exact⟨_,rfl⟩
   ·exact⟨_,rfl⟩
 ·rw[if_neg hf]
  exact⟨_,rfl⟩
end
def KL(n:Nat):List (Nat × Nat × Nat)->Nat->Nat->Prop
 | [],s,l=>s=1/\l=0
 | o::r,s,l=>o.1<n/\o.2.1<=s/\s<=o.2.1+2/\o.2.2<=l/\l<=o.2.2+1/\KL n r o.2.1 o.2.2
theorem Ru{n:Nat}:∀ (r:List (Nat × Nat × Nat)) (s l:Nat),KL n r s l->0<s/\s<=2*r.length+1/\l<=r.length
 | [],s,l,h=>by simp[KL] at h;simp;omega
 | o::r,s,l,h=>by
  simp only[KL] at h
  obtain⟨_,h1,h2,h3,h4,h5⟩:=h
  have:=Ru r _ _ h5
  simp only[List.length_cons]
  omega
theorem VP{n:Nat}:∀ (r:List (Nat × Nat × Nat)) (s l:Nat),KL n r s l->∀o ∈ r,o.1<n
 | [],s,l,h,o,ho=>by cases ho
 | p::r,s,l,h,o,ho=>by
  simp only[KL] at h
  rcases z4z.1 ho with rfl|ho
  ·exact h.1
  ·exact VP r _ _ h.2.2.2.2.2 o ho
theorem wF{L:List (Nd × Nat)}{c c1:Sc}{a:Nat}{n:Nd}{kids:Nat}(h:EO L c a n kids=some c1):c.scs.length<=c1.scs.length/\c1.scs.length<=c.scs.length+2/\c.lps.length<=c1.lps.length/\c1.lps.length<=c.lps.length+1:=by
 unfold EO at h
 simp only at h
 split at h
 ·cases h;simp
 split at h
 ·cases h;simp
 split at h
 ·split at h
  ·cases h
  ·rename_i s r e
   cases h;simp[e]
 split at h
 ·split at h
  ·cases h
  ·split at h
   ·cases h;simp;omega
   ·cases h;simp
 split at h
 ·cases h;simp
 split at h
 ·cases h;simp
 split at h
 ·split at h
  ·cases h
  ·rename_i s r e
   cases h;simp[e]
 split at h
 ·cases h;simp
 ·cases h;simp
theorem lF{L:List (Nd × Nat)}{c c1:Sc}{o:Nat × Nat × Nat}{r:List (Nat × Nat × Nat)}(ho:c.opn=o::r)(h1:o.2.1<=c.scs.length)(h2:o.2.2<=c.lps.length)(h:EH L c=some c1):c1.scs.length=o.2.1/\c1.lps.length=o.2.2:=by
 unfold EH at h
 rw[ho] at h
 simp only at h
 have e1:(c.scs.drop (c.scs.length-o.2.1)).length=o.2.1:=by rw[z2z];omega
 have e2:(c.lps.drop (c.lps.length-o.2.2)).length=o.2.2:=by rw[z2z];omega
 split at h
 ·split at h
  ·cases h
  ·rename_i t q e
   rw[e] at e1
   cases h
   exact⟨by simpa using e1,e2⟩
 ·cases h
  exact⟨e1,e2⟩
def Hw(n:Nat)(c:Sc):Prop:=KL n c.opn c.scs.length c.lps.length
theorem Hw.enter{L:List (Nd × Nat)}{c c1:Sc}{a:Nat}{n:Nd}{kids:Nat}{N:Nat}(h:Hw N c)(e:EO L c a n kids=some c1)(ha:a<N):Hw N c1:=by
 unfold Hw
 rw[NY e]
 obtain⟨b1,b2,b3,b4⟩:=wF e
 exact⟨ha,b1,b2,b3,b4,h⟩
theorem Hw.leave{L:List (Nd × Nat)}{c c1:Sc}{o:Nat × Nat × Nat}{r:List (Nat × Nat × Nat)}{N:Nat}(h:Hw N c)(ho:c.opn=o::r)(e:EH L c=some c1):Hw N c1/\o.1<N/\0<o.2.1/\o.2.1<=c.scs.length/\o.2.2<=c.lps.length:=by
 unfold Hw at h
 rw[ho] at h
 simp only[KL] at h
 obtain⟨h0,h1,h2,h3,h4,h5⟩:=h
 obtain⟨q1,q2⟩:=lF ho h1 h3 e
 refine⟨?_,h0,(Ru _ _ _ h5).1,h1,h3⟩
 unfold Hw
 rw[Ny ho e,q1,q2]
 exact h5
theorem Hw.len{c:Sc}{N:Nat}(h:Hw N c):0<c.scs.length/\c.scs.length<=2*c.opn.length+1/\c.lps.length<=c.opn.length:=Ru _ _ _ h
end Go.Proofs.YtjplieobnknnpaaGreatDoor.W.Tr
