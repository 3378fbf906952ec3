import Derived.Test.YteffljnjmcjdfaaGreatDoorKA
set_option maxRecDepth 1000000
set_option maxHeartbeats 8000000
namespace Go.Proofs.YteffljnjmcjdfaaGreatDoor.W.Tr
set_option linter.unusedVariables false
def repB(n:Nat)(l:List UInt8):List UInt8:=(List.replicate n l).flatten
def nestS(o s:List UInt8)(n:Nat):List UInt8:=[102,110,32,102,40,97,41,32,123,32,114,101,116,117,114,110,32]++repB n o++[97]++repB n s++[59,32,125]
def nestG(o:List UInt8)(n:Nat):Option (Rs Fo)->Bool
 | some (.ok (f,_))=>Nat.ble n 63&&Nat.ble 6 (rowF f).length
 | some (.error e)=>Nat.ble 64 n&&(e.1==71)&&(e.2==((17+63*o.length+o.length-1:Nat):Int))
 | none=>false
def nestB(o s:List UInt8)(n:Nat):Bool:=nestG o n (P 2000 (.pg .nil) ⟨srcY (nestS o s n),0⟩)
def nestR(o s:List UInt8):Nat->Nat->Bool
 | 0,_=>true
 | c+1,n=>nestB o s n&&nestR o s c (n+1)
theorem nestR_at{o s:List UInt8}:∀ (c n:Nat),nestR o s c n=true->∀m,n<=m->m<n+c->nestB o s m=true
 | 0,n,_,m,h1,h2=>by omega
 | c+1,n,h,m,h1,h2=>by
  unfold nestR at h
  simp only[Bool.and_eq_true] at h
  rcases Nat.lt_or_ge n m with hm|hm
  ·exact nestR_at c (n+1) h.2 m hm (by omega)
  ·rw[show m=n by omega];exact h.1
end Go.Proofs.YteffljnjmcjdfaaGreatDoor.W.Tr
