/- an argument's bytes. -/
import Derived.Test.YtpoifdokmjhclaaGreatJyb
set_option maxRecDepth 100000
set_option maxHeartbeats 8000000
namespace Go.Proofs.YtpoifdokmjhclaaGreat
open Go.RowKit Lim
def vI (w:World) (a:Option Addr) (len cap:Nat) (zs:List Int):Prop :=
 (a=none/\len=0/\cap=0/\zs=[]) \/
 ∃ x,a=some x/\len<=cap/\cap<=maxLen/\zs.length=cap/\(∀ i,i < zs.length->w.cell? (x.add i)=some (.int .u8 (zs.getD i 0)))/\∀ n∈zs,(Lit.int .u8 n).wf=true
theorem vI.open {w:World} {a:Option Addr} {len cap:Nat} {zs:List Int} (h:vI w a len cap zs):∃ b o l,l.length=len/\len<=cap/\len<=9223372036854775807/\aJ l/\AtB w a b o l:=by
 rcases h with⟨rfl,rfl,rfl,rfl⟩ | ⟨x,rfl,h1,h2,h3,h4,h5⟩
 ·exact⟨0,0,[],rfl,Nat.le_refl _,by decide,λx hx=>by simp at hx,.inl rfl,λi hi=>by simp at hi⟩
 have hw:aJ (zs.take len):=λy hy=>by
  have:=h5 y (List.mem_of_mem_take hy);have:=bounds_u8 this;omega
 have k:(zs.take len).length=len:=by simp;omega
 have d:len<=9223372036854775807:=by unfold maxLen at h2;omega
 by_cases n:len=0
 ·refine⟨0,0,zs.take len,k,h1,d,hw,.inl (List.eq_nil_of_length_eq_zero (by omega)),λi hi=>by omega⟩
 have hx:=h4 0 (by omega)
 have g:x.spot=none:=by
  rw[show x.add 0=x from rfl] at hx;simp only[World.cell?] at hx
  cases hh:w.heap[x.block]? with
  | none=>rw[hh] at hx;simp at hx
  | some ob =>
   rw[hh] at hx
   cases ob with
   | cells c e f =>
    simp at hx
    cases hs:x.spot with
    | none=>rfl
    | some s=>rw[hs] at hx;simp at hx
   | _=>simp at hx
 obtain⟨b,o,sp⟩:=x;simp at g;subst g;refine⟨b,o,zs.take len,k,h1,d,hw,.inr rfl,λi hi=>?_⟩;have m:=h4 i (by omega);rw[df]
 have e:(⟨b,o,none⟩:Addr).add i=⟨b,o+i,none⟩:=by
  by_cases j:i=0
  ·subst j;rfl
  simp[Addr.add,j]
 rw[e] at m;exact m
end Go.Proofs.YtpoifdokmjhclaaGreat
