import Derived.Test.YteffljnjmcjdfaaGreatDoorKA
set_option maxRecDepth 1000000
set_option maxHeartbeats 8000000
namespace Go.Proofs.YteffljnjmcjdfaaGreatDoor.W.Tr
set_option linter.unusedVariables false
def opT:List (List (List UInt8)):=[[[111,114]],[[97,110,100]],[[61,61],[33,61],[60],[60,61],[62],[62,61]],[[124]],[[94]],[[38]],[[60,60],[62,62]],[[43],[45]],[[42],[47],[47,47],[37]]]
def lvS0(a b:List UInt8):List UInt8:=[102,110,32,102,40,120,44,32,121,44,32,122,41,32,123,32,114,101,116,117,114,110,32,120,32]++a++[32,121,32]++b++[32,122,59,32,125]
def lvS1(a b:List UInt8):List UInt8:=[102,110,32,102,40,120,44,32,121,44,32,122,41,32,123,32,114,101,116,117,114,110,32,40,120,32]++a++[32,121,41,32]++b++[32,122,59,32,125]
def lvS2(a b:List UInt8):List UInt8:=[102,110,32,102,40,120,44,32,121,44,32,122,41,32,123,32,114,101,116,117,114,110,32,120,32]++a++[32,40,121,32]++b++[32,122,41,59,32,125]
def ndB(p q:Nd × Nat):Bool:=(p.1.kind==q.1.kind)&&Nat.beq p.2 q.2&&(p.1.text.data.toList==q.1.text.data.toList)&&(p.1.int==q.1.int)&&(p.1.bits==q.1.bits)
def bareP:List (Nd × Nat)->List (Nd × Nat)->Bool
 | [],[]=>true
 | p::L,q::M=>ndB p q&&bareP L M
 | _,_=>false
def rdP(l:List UInt8):Option (Rs Fo):=P 120 (.pg .nil) ⟨srcY l,0⟩
def lvE(a b:List UInt8):Bool:=match rdP (lvS0 a b) with
 | some (.error e)=>(e.1==70)&&(e.2==((28+a.length:Nat):Int))
 | _=>false
def lvR(i j:Nat)(a b:List UInt8):Bool:=match rdP (lvS0 a b),rdP (lvS1 a b),rdP (lvS2 a b) with
 | some (.ok (f,_)),some (.ok (g,_)),some (.ok (h,_))=>Nat.ble (rowF f).length 1000&&Nat.ble (rowF g).length 1000&&Nat.ble (rowF h).length 1000&&(if Nat.ble j i then bareP (rowF f) (rowF g) && !bareP (rowF f) (rowF h) else bareP (rowF f) (rowF h) && !bareP (rowF f) (rowF g))
 | _,_,_=>false
def lvB(i j:Nat)(a b:List UInt8):Bool:=if Nat.beq i 2&&Nat.beq j 2 then lvE a b else lvR i j a b
def lvAll(i:Nat)(a:List UInt8):Bool:=
 (opT.zipIdx).all λr=>r.1.all λb=>lvB i r.2 a b
theorem lvAll_at{i:Nat}{a:List UInt8}(h:lvAll i a=true){j:Nat}{r:List (List UInt8)}{b:List UInt8}(hj:opT[j]? = some r)(hb:b ∈ r):lvB i j a b=true:=by
 unfold lvAll at h
 rw[List.all_eq_true] at h
 have:=h (r,j) (List.mem_zipIdx_iff_getElem?.2 hj)
 rw[List.all_eq_true] at this
 exact this b hb
end Go.Proofs.YteffljnjmcjdfaaGreatDoor.W.Tr
