/- Several texts, joined: QuH, QuI, QuJ, PwJ. -/
import Derived.Test.YtliajmpchofiiaaGreatJao
import Derived.Test.YtliajmpchofiiaaGreatJas
import Derived.Test.YtliajmpchofiiaaGreatJag
set_option maxRecDepth 100000
set_option maxHeartbeats 8000000
namespace Go.Proofs.YtliajmpchofiiaaGreat
section
namespace Qu
open Go.RowKit Go.Lib Pg Lim Gl Kv Bk Pw
attribute [local go_sem] Oper.semAt_some
set_option linter.unusedVariables false
set_option linter.unusedSimpArgs false
theorem vS:dN []=0:=by decide
def rputE (E:ay) (k i a b d:Int):ay :=
 let E1:=put (put E (Ky.mk 14 d i) (nv k)) (Ky.mk 15 b i) (nv k)
 put E1 (Ky.mk 17 a b) (nv ((cR E1 a b + 1) % 18446744073709551616))
end Qu
end
section
namespace Qu
open Go.RowKit Go.Lib Pg Lim Gl Kv Bk Pw
attribute [local go_sem] Oper.semAt_some
set_option linter.unusedVariables false
set_option linter.unusedSimpArgs false
end Qu
end
section
namespace Qu
open Go.RowKit Go.Lib Pg Lim Gl Kv Bk Pw
attribute [local go_sem] Oper.semAt_some
set_option linter.unusedVariables false
set_option linter.unusedSimpArgs false
def xj (E:ay) (k id a b d:Int):ay :=
 let E1:=rem (rem (rem E (Ky.mk k id 0)) (Ky.mk 14 d id)) (Ky.mk 15 b id)
 if cR E1 a b<=1 then rem E1 (Ky.mk 17 a b) else put E1 (Ky.mk 17 a b) (nv ((cR E1 a b - 1) % 18446744073709551616))
def ij (E:ay) (id k:Int):ay:=if k=12 then (if (Kv.look E (Ky.mk 12 id 0)).isSome=true then xj E k id (uX (got E (Ky.mk 12 id 0)) 0) (uX (got E (Ky.mk 12 id 0)) 1) (uX (got E (Ky.mk 12 id 0)) 3) else E) else if k=13 then (if (Kv.look E (Ky.mk 13 id 0)).isSome=true then xj E k id (mX (got E (Ky.mk 13 id 0)) 0) (mX (got E (Ky.mk 13 id 0)) 1) (mX (got E (Ky.mk 13 id 0)) 4) else E) else E
end Qu
end
section
namespace Pw
open Go.RowKit Go.Lib Pg Lim Gl Kv Bk
attribute [local go_sem] Oper.semAt_some
set_option linter.unusedSimpArgs false
set_option linter.unusedVariables false
theorem zC {E:ay} {k v:List Int} {x:KV} (h:x∈put E k v):x∈E\/x=(k,v):=by
 unfold put at h;rcases List.mem_append.1 h with h | h
 ·exact .inl (List.mem_filter.1 h).1
 ·rcases List.mem_cons.1 h with h | h
  ·exact .inr h
  ·exact .inl (List.mem_filter.1 h).1
section
variable {E:ay} {v tk:Int}
end
theorem dumpP {B:Nat} {w:World} {K:Nat->Prop} {g:Nat} {E:ay} {W:List ay} {n N:Nat} (h:Sx B w K g E W n N) (hN:N<=100000000):Calls Tryz.prog 30 #[pg g] w fun e w'=>∃ v es,e=.returned v/\PrA w' w.heap.size v es/\es.map En.kl2=E/\Zp K w.heap.size w' w'/\Below w.heap.size w w':=by
 refine(sdump h.sa hN).mono ?_
 rintro e w' ⟨v,es,rfl,P,he,B⟩;exact⟨v,es,rfl,P,he,zp_new (fun b hb=>h.sa.lt hb),B⟩
section
variable {B:Nat} {w w':World} {K K' X X':Nat->Prop} {g q:Nat} {E E2:ay} {W:List ay} {n N n2:Nat}
end
end Pw
end
end Go.Proofs.YtliajmpchofiiaaGreat
