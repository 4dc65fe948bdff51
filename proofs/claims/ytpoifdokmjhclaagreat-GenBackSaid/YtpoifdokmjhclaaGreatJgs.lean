/- Several texts, joined: SdA. -/
import Derived.Test.YtpoifdokmjhclaaGreatJgr
import Derived.Test.YtpoifdokmjhclaaGreatJgk
namespace Go.Proofs.YtpoifdokmjhclaaGreat
namespace Sd
open Go.RowKit Go.Lib Pg Lim Gl Kv Bk Pw
section
variable {B : Nat} {K : Nat → Prop} {g : Nat} {E : Ents} {Wn : List Ents} {x N c : Nat} {w w' : World} {v : Value}
end
section
variable {b : Nat} {Ds : List Nat} {w w' : World}
end
section
variable {n : Nat} {l : Fr} {fn : Func} {R : Ending → World → Prop} {w : World} {b : Nat}
end
section
variable {n : Nat} {ds : List Deferred} {l : Fr} {Q : Exit → Act → World → Prop} {w : World} {B : Nat} {K : Nat → Prop} {g : Nat} {E : Ents} {Wn : List Ents} {x N c : Nat} {v : Value}
end
end Sd
end Go.Proofs.YtpoifdokmjhclaaGreat
