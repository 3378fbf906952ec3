import Derived.Test.YtknkedihmmbanaaDoorRC
import Derived.Test.YtknkedihmmbanaaDoorRD
open Go.Proofs.Tryd
set_option maxRecDepth 1000000
set_option maxHeartbeats 8000000
namespace Go.Proofs.YtknkedihmmbanaaDoor.W
open Go.ChangeShapes Go.WideShapes Go.RowKit Go.Shelf
set_option linter.unusedVariables false
theorem goes_c(s:ByteArray)(hs:s.size<=5000)(stop:Int)(w:World)(ht:Tabs w)(hm:MarksIn w):Calls prog 11 #[.string s,.int .i64 stop] w λe w'=>e=.returned (.bool true)/\Below w.heap.size w w':=by
 have hl:=size_list s
 have hsrc:srcY s.data.toList=T s.data.toList 0:=src_T _ (by omega)
 have hlen:(T s.data.toList 0).length<=5001:=by have:=srcY_len s.data.toList;rw[hsrc] at this;omega
 refine goes_core s hs stop (T s.data.toList 0) rfl hlen T_pos (λsb=>?_) (λa ha w=>rBlank_c s (by omega) a ha w) (λk hk hg y rest hT w=>?_) w ht hm
 ·rw[<- hsrc,<- vals_map]
  exact toks_iter s (by omega) sb
 ·obtain⟨to',h1,h2⟩:=goes_step s.data.toList k (by omega) hg y rest hT
  refine(rNext_any s (by omega) k hk w).mono ?_
  rintro e w' ⟨rfl,hb⟩
  refine⟨⟨to',by rw[h1];rfl,?_⟩,hb⟩
  rcases h2 with h2|h2|⟨h2,h3,m,h4,h5,h6⟩
  ·exact .inl h2
  ·exact .inr (.inl h2)
  ·exact .inr (.inr ⟨h2,h3,m,h4,by omega,h6⟩)
theorem lexReads_long(s:ByteArray)(hs:5000<s.size)(stop:Int)(w:World):Calls prog 3 #[.string s,.int .i64 stop] w λe w'=>e=.returned (.bool true)/\Below w.heap.size w w':=by
 have c':(s.size:Int)>5000:=by omega
 clear hs
 go_enter func3,ntmps3
 go_wp2
 go_ret
 exact⟨rfl,Below.refl _ _⟩
theorem lexReads_walk(s:ByteArray)(stop:Int)(ws:s.size<=maxLen)(w1:(Lit.int .i64 stop).wf=true)(w:World)(ht:Tabs w)(hm:MarksIn w):Calls prog 3 #[.string s,.int .i64 stop] w λe w'=>e=.returned (.bool true)/\Below w.heap.size w w':=by
 by_cases c:5000<s.size
 ·exact lexReads_long s c stop w
 ·have hs:s.size<=5000:=by omega
  have hl:=size_list s
  have hsrc:srcY s.data.toList=T s.data.toList 0:=src_T _ (by omega)
  have hlen:(ansY (T s.data.toList 0)).1.length<=5001:=by have:=srcY_len s.data.toList;rw[hsrc] at this;have:=ans_len (T s.data.toList 0);omega
  exact lexReads_core s hs stop (ansY (T s.data.toList 0)).1 _ rfl hlen (ansY (T s.data.toList 0)).2.1 (ansY (T s.data.toList 0)).2.2 w ht hm (λw=>refAll_ans s hs w) (λw ht hm=>lexAll_ans s hs w ht hm) (λstop w ht hm=>goes_c s hs stop w ht hm)
end Go.Proofs.YtknkedihmmbanaaDoor.W
