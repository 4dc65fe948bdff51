/- Several texts, joined: PwG, PwH, RcU. -/
import Derived.Test.YtcpnipcgedfgdaaGreatJap
import Derived.Test.YtcpnipcgedfgdaaGreatJaq
import Derived.Test.YtcpnipcgedfgdaaGreatJar
import Derived.Test.YtcpnipcgedfgdaaGreatJaj
import Derived.Test.YtcpnipcgedfgdaaGreatJak
set_option maxRecDepth 100000
set_option maxHeartbeats 8000000
namespace Go.Proofs.YtcpnipcgedfgdaaGreat
section
namespace Pw
open Go.RowKit Go.Lib Pg Lim Gl Kv Bk
structure Rx (B:Nat) (w:World) (X:Nat->Prop) (q:Nat) (E:Ents) (n:Nat):Prop where
 rs:RS w (B <= ·) X q E [] n
 kind:∀ b,X b->∃ cs t,Blk w b cs t/\t≠5
 lo:B<=w.heap.size
structure Ar (B:Nat) (w0:World) (X0:Nat->Prop) (w:World) (X:Nat->Prop) (q:Nat) (E:Ents) (n:Nat):Prop where
 rx:Rx B w X q E n
 xm:∀ b,X b->X0 b\/w0.heap.size<=b
 cc:Chg X0 w0 w
section
variable {B:Nat} {w0 w w':World} {X0 X X':Nat->Prop} {q:Nat} {E E':Ents} {n n':Nat}
end
end Pw
end
section
namespace Pw
open Go.RowKit Go.Lib Pg Lim Gl Kv Bk
attribute [local go_sem] Oper.semAt_some
set_option linter.unusedSimpArgs false
set_option linter.unusedVariables false
section
variable {B:Nat} {w:World} {X:Nat->Prop} {q:Nat} {E:Ents} {n:Nat}
end
end Pw
end
section
namespace Rc
open Go.RowKit Go.Lib Pg Lim Gl
end Rc
end
end Go.Proofs.YtcpnipcgedfgdaaGreat
