/- Several texts, joined: FoS, FoT, FoU, FoV. -/
import Derived.Test.YthfepflplbahkaaGreatDoorJaG
set_option maxRecDepth 100000
set_option maxHeartbeats 8000000
namespace Go.Proofs.YthfepflplbahkaaGreatDoor
section
namespace Fo
open Go.RowKit Go.Lib Pg Lim Gl Kv Bk Pw
section
variable {ρ:Operand->Value}{w:World}{o:Oper}{W:List aI}{b g off n c n' c' n0 c0:Nat}{v:Value}{ao ao' a a0:Option Addr}{x y:Int}{z0 L:List Int}{K:Nat->Prop}{R:Int->Int}
attribute [local go_sem] Oper.semAt_some
set_option linter.unusedVariables false
set_option linter.unusedSimpArgs false
theorem run_cv(k:Int)(hk:0<=k/\k < 18446744073709551616)(ho:∃ u,o.op=.convert 3 22 u/\ρ u=.int .i64 k:=by exact⟨_,rfl,by kernel_rfl⟩):(execOp ρ o).run Tryz.prog w=.ok (.value (.int .u64 k)) w:=by
 obtain⟨u,h,h1⟩:=ho;simp only[execOp,h,h1];go_simp;rw[IntKind.wrap_u64,Int.emod_eq_of_lt hk.1 hk.2]
theorem yu{W:World}{o:Nat}(B:Below w.heap.size w W)(h:w.cell? ⟨b,o,none⟩=some v):W.cell? ⟨b,o,none⟩=some v:=by
 rw[World.cell?_of_block (w:=w) (B.block b (aK h))]; exact h
theorem oM{P:Program}(sz b off n c k:Nat)(hk:k < n)(hao:0 < n->ao=some ⟨b,off,none⟩)(ho:∃ T x y,o.op=.indexAddr T x y/\slT P T sz=true/\ρ x=.slice ao n c/\ρ y=.int .i64 (k:Int):=by exact⟨_,_,_,rfl,by kernel_rfl,by kernel_rfl,by kernel_rfl⟩):(execOp ρ o).run P w=.ok (.value (.pointer (some ⟨b,off + k * sz,none⟩))) w:=by
 rw[hao (by omega)] at ho;exact uE sz b off n c k hk ho
theorem ld_dec{o:Nat}(c:w.cell? ⟨g,o,none⟩=some v):(loadVar 32 ⟨g,o,none⟩).run Tryz.prog w=.ok (.agg #[v]) w:=by go_simp
theorem ld_nat{o:Nat}(c:w.cell? ⟨g,o,none⟩=some v):(loadVar 30 ⟨g,o,none⟩).run Tryz.prog w=.ok v w:=by go_simp
theorem Bx(hc:w.cell? ⟨b,off,none⟩=some v)(ho:∃ p,o.op=.load 32 p/\ρ p=.pointer (some ⟨b,off,none⟩):=by exact⟨_,rfl,by kernel_rfl⟩):(execOp ρ o).run Tryz.prog w=.ok (.value (.agg #[v])) w:=by
 obtain⟨p,h,hp⟩:=ho;have:=ld_dec hc;simp only[execOp,h,hp];simp[Instr.loadAt,Instr.sureAddr,Result.andThen,this]
theorem uI(hc:w.cell? ⟨b,off,none⟩=some v)(ho:∃ p,o.op=.load 30 p/\ρ p=.pointer (some ⟨b,off,none⟩):=by exact⟨_,rfl,by kernel_rfl⟩):(execOp ρ o).run Tryz.prog w=.ok (.value v) w:=by
 obtain⟨p,h,hp⟩:=ho;have:=ld_nat hc;simp only[execOp,h,hp];simp[Instr.loadAt,Instr.sureAddr,Result.andThen,this]
theorem AO(p q:Int)(hp:0<=p/\p < 18446744073709551616)(hq:0 < q/\q < 18446744073709551616)(ho:∃ u v,o.op=.binOp .rem 22 u v 22/\ρ u=.int .u64 p/\ρ v=.int .u64 q:=by exact⟨_,_,rfl,by kernel_rfl,by kernel_rfl⟩):(execOp ρ o).run Tryz.prog w=.ok (.value (.int .u64 (p % q))) w:=by
 obtain⟨u,v,h,h1,h2⟩:=ho
 have e:p.tmod q=p % q:=Int.tmod_eq_emod_of_nonneg hp.1;have e1:=Int.emod_nonneg p (show q≠0 by omega);have e2:=Int.emod_lt_of_pos p hq.1
 have e3:p % q % 18446744073709551616=p % q:=Int.emod_eq_of_lt e1 (by omega)
 have e4:¬ q=0:=by omega
 simp only[execOp,h,h1,h2];go_simp
 try simp[e,e3,e4]
theorem cmpLe(h:aX w ao n c x)(h':aX w ao' n' c' y)(hn:n<=1099511627776)(hn':n'<=1099511627776)(hxy:x<=y):Calls Tryz.prog 26 #[.slice ao n c,.slice ao' n' c'] w fun e w'=>∃ r,e=.returned (.int .i64 r)/\r<=0/\Below w.heap.size w w':=by
 refine(nCmp h h' hn hn').mono ?_
 rintro e w' ⟨rfl,B⟩;exact⟨_,rfl,by unfold sgn; split<;>(try split)<;>omega,B⟩
theorem cmpGt(h:aX w ao n c x)(h':aX w ao' n' c' y)(hn:n<=1099511627776)(hn':n'<=1099511627776)(hxy:y < x):Calls Tryz.prog 26 #[.slice ao n c,.slice ao' n' c'] w fun e w'=>e=.returned (.int .i64 1)/\Below w.heap.size w w':=by
 have t:=nCmp h h' hn hn';rw[ji hxy] at t;exact t
structure DF(w:World)(ao:Option Addr)(n b o:Nat)(aa:Nat->Option Addr)(ns cc:Nat->Nat)(xs:Nat->Int):Prop where
 ptr:0 < n->ao=some ⟨b,o,none⟩
 cell:∀ i,i < n->w.cell? ⟨b,o + i * 1,none⟩=some (.slice (aa i) (ns i) (cc i))
 nat:∀ i,i < n->aX w (aa i) (ns i) (cc i) (xs i)
 few:n<=9223372036854775807/\∀ i,i < n->ns i<=9223372036854775807
theorem u64r{v:Int}(b:(Lit.int .u64 v).wf=true):0<=v/\v < 18446744073709551616:=by
 have:=bounds_u64 b;omega
structure mX(w:World)(a:Option Addr)(len cap:Nat):Prop where
 few:len<=cap/\cap<=maxLen
 row:∀ i,i < len->∃ b o a0 n0 c0 z0,a=some ⟨b,o,none⟩/\w.cell? ⟨b,o + i,none⟩=some (.slice a0 n0 c0)/\mr w a0 n0 c0 z0
theorem mX.open{len cap:Nat}(h:mX w a len cap):∃ b o aa ns cc xs,DF w a len b o aa ns cc xs:=by
 have hb:∃ b o,0 < len->a=some ⟨b,o,none⟩:=by
  rcases Nat.eq_zero_or_pos len with h0 | h0
  ·exact⟨0,0,fun h=>by omega⟩
  ·obtain⟨b,o,_,_,_,_,e,_⟩:=h.row 0 h0;exact⟨b,o,fun _=>e⟩
 obtain⟨b,o,hp⟩:=hb
 have hr:∀ i,∃ p:Option Addr × Nat × Nat × Int,i < len->w.cell? ⟨b,o + i,none⟩=some (.slice p.1 p.2.1 p.2.2.1)/\aX w p.1 p.2.1 p.2.2.1 p.2.2.2/\p.2.1<=9223372036854775807:=fun i=>by
  by_cases hi:i < len
  ·obtain⟨b',o',a0,n0,c0,z0,e,h1,h2⟩:=h.row i hi
   have e':=hp (by omega);rw[e] at e'
   cases e';obtain⟨g1,o1,l1,hl1,hc1,hm1,W1,h3⟩:=h2.open;exact⟨(a0,n0,c0,val l1),fun _=>⟨h1,⟨g1,o1,l1,hl1,hc1,W1,h3,rfl⟩,hm1⟩⟩
  ·exact⟨(none,0,0,0),fun h=>absurd h hi⟩
 obtain⟨f,hf⟩:=Classical.skolem.1 hr;have hm:=h.few;unfold maxLen at hm;exact⟨b,o,fun i=>(f i).1,fun i=>(f i).2.1,fun i=>(f i).2.2.1,fun i=>(f i).2.2.2,hp,fun i hi=>by rw[Nat.mul_one]; exact(hf i hi).1,fun i hi=>(hf i hi).2.1,by omega,fun i hi=>(hf i hi).2.2⟩
theorem Dl(h:mr w a0 n0 c0 z0):∃ x,aX w a0 n0 c0 x/\n0<=9223372036854775807:=by
 obtain⟨g1,o1,l1,hl1,hc1,hm1,W1,h3⟩:=h.open;exact⟨val l1,⟨g1,o1,l1,hl1,hc1,W1,h3,rfl⟩,hm1⟩
theorem qJ{B:Nat}{E:aI}{N:Nat}{rt tk un pe la fr:Int}{jl bo:Bool}{C:List (Int × Int × Int)}{a1 a2 a3 a4 a5:Option Addr}{n1 c1 n2 c2 n3 c3 n4 c4 n5 c5 z5:Nat}{x5:Int}(h:Sx B w K g E W n N)(F:Fs E 16 la R L C)(Q5:Nq w K z5 a5 n5 c5 x5)(m5:n5<=1000000)(hf:fr∈L)(hp:(pe - 1) % 18446744073709551616=la)(hC:C.length<=1000)(hn2:n<=1000000000000000000)(hN:N + 3000<=100000000):Calls Tryz.prog 20 #[pg g,.int .u64 16,.agg #[.int .u64 rt,.int .u64 tk,.slice a0 n0 c0,.bool jl,.int .u64 un,.bool bo,.int .u64 pe,.slice a1 n1 c1,.slice a2 n2 c2,.slice a3 n3 c3],.agg #[.slice a4 n4 c4,.int .u64 fr,.slice a5 n5 c5]] w (oU B w K g E W n N (aft C fr).length (cmV R (aft C fr) fr la x5)):=by
 subst hp;have hu:=(F.hL fr hf).1;have e1:=F.DD hu;have e2:=F.claim (x:=x5) hf
 have hl:(dt E 16 fr ((pe - 1) % 18446744073709551616)).length<=1000:=by
  rw[e1];exact Nat.le_trans (List.length_filter_le _ _) hC
 have t:=kG (x0:=0) (z0:=0) (x1:=0) (z1:=0) (x2:=0) (z2:=0) (x3:=0) (z3:=0) (x4:=0) (z4:=0) (rt:=rt) (tk:=tk) (un:=un) (jl:=jl) (bo:=bo) (a0:=a0) (n0:=n0) (c0:=c0) (a1:=a1) (n1:=n1) (c1:=c1) (a2:=a2) (n2:=n2) (c2:=c2) (a3:=a3) (n3:=n3) (c3:=c3) (a4:=a4) (n4:=n4) (c4:=c4) h ⟨by decide,by decide⟩ Q5 m5 (F.frm8 hu F.ul) hn2 hl (by omega) hN;rw[e1,e2] at t;exact t
theorem A8{k:Int}(h:k<=1000000 * 18446744073709551616 ^ 4):k < LIM:=by
 have:(1000000 * 18446744073709551616 ^ 4:Int) < LIM:=by unfold LIM; decide +kernel
 omega
end
end Fo
end
section
namespace Fo
open Go.RowKit Go.Lib Pg Lim Gl Kv Bk Pw
attribute [local go_sem] Oper.semAt_some
set_option linter.unusedVariables false
set_option linter.unusedSimpArgs false
end Fo
end
section
namespace Fo
open Go.RowKit Go.Lib Pg Lim Gl Kv Bk Pw
attribute [local go_sem] Oper.semAt_some
set_option linter.unusedVariables false
set_option linter.unusedSimpArgs false
end Fo
end
section
namespace Fo
open Go.RowKit Go.Lib Pg Lim Gl Kv Bk Pw
attribute [local go_sem] Oper.semAt_some
set_option linter.unusedVariables false
set_option linter.unusedSimpArgs false
end Fo
end
end Go.Proofs.YthfepflplbahkaaGreatDoor
