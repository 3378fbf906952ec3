import Derived.Test.YteffljnjmcjdfaaGreatDoorKW
import Derived.Test.YteffljnjmcjdfaaGreatDoorKA
set_option maxRecDepth 1000000
set_option maxHeartbeats 8000000
namespace Go.Proofs.YteffljnjmcjdfaaGreatDoor.W.Tr
set_option linter.unusedVariables false
set_option linter.unusedSimpArgs false
theorem toks_gd(l:List UInt8):∀ (f a:Nat),l.length+1<=f+a->0<f->∃xs z,toksY f l a=xs++[z]/\(z.c=0->z.t.kind=7)
 | 0,a,h,h0=>by omega
 | f+1,a,h,h0=>by
  unfold toksY
  split
  ·exact⟨[],_,rfl,λ_=>rfl⟩
  rename_i h1
  split
  ·exact⟨[],_,rfl,λe=>by cases e⟩
  rename_i h2
  split
  ·rename_i h3
   exact⟨[],_,rfl,λe=>absurd e h3⟩
  obtain⟨xs,z,e,hz⟩:=toks_gd l f (a+(pieceP (l.drop a)).size) (by omega) (by omega)
  split
  ·exact⟨_::xs,z,by rw[e];rfl,hz⟩
  ·exact⟨xs,z,e,hz⟩
theorem gd_src(l:List UInt8):Gd ⟨srcY l,0⟩:=by
 unfold Gd srcY
 simp only
 split
 ·exact⟨[],_,rfl,λe=>by cases e⟩
 ·exact toks_gd l _ 0 (by omega) (by omega)
theorem ends_code{l:List UInt8}{f:Flt}(h:Ends l (.error f)):f.1≠0:=by
 obtain⟨n,h⟩:=h
 exact(perr n (.pg .nil) _ (gd_src l) trivial _ h).1 f rfl
theorem pg_form':∀ (n:Nat) (l:Fo) (s:Cs) (fo:Fo) (s':Cs),P n (.pg l) s=some (.ok (fo,s'))->∃nd m,fo=Fo.one nd m
 | 0,l,s,fo,s',h=>by cases h
 | n+1,l,s,fo,s',h=>by
  have h:(lookM.bind λy=>if y.t.kind=7 then Pm.pure (Fo.one ⟨1,0,⟨#[]⟩,0,0⟩ l) else (P n (if fixedT y.t=k_let then .gl else .fu)).bind λx=>P n (.pg (l.app x))) s=some (.ok (fo,s')):=h
  rcases look_inv h with⟨e,_,h1⟩|⟨y,_,h1⟩
  ·cases h1
  ·split at h1
   ·have:=pure_inv h1
    cases this
    exact⟨_,_,rfl⟩
   ·rcases bind_inv h1 with⟨e,_,h2⟩|⟨x,s1,_,h2⟩
    ·cases h2
    ·exact pg_form' n _ _ _ _ h2
end Go.Proofs.YteffljnjmcjdfaaGreatDoor.W.Tr
