import Derived.Test.YtidnifmehnjipaaGreatJaz
set_option maxRecDepth 100000
set_option maxHeartbeats 8000000
namespace Go.Proofs.YtidnifmehnjipaaGreat
section
namespace Qu
open Go.RowKit Go.Lib Pg Lim Gl Kv Bk Pw
attribute [local go_sem] Oper.semAt_some
set_option linter.unusedVariables false
set_option linter.unusedSimpArgs false
structure Sq where
 w:Int
 k:Int
 n:Int
 u0:Int
 u1:Int
 u2:Int
 u3:Int
 u4:Int
 u5:Int
 m0:Int
 m1:Int
 m2:Int
 m3:Int
 m4:Int
 m5:Int
 a:Option Addr
 l:Nat
 c:Nat
 z:Nat
 x:Int
def scA (s:Sq):Array Value:=#[.int .i64 s.w,.int .i64 s.k,.int .u64 s.n,.int .u64 s.u0,.int .u64 s.u1,.int .u64 s.u2,.int .u64 s.u3,.int .u64 s.u4,.int .u64 s.u5,.int .u64 s.m0,.int .u64 s.m1,.int .u64 s.m2,.int .u64 s.m3,.int .u64 s.m4,.int .u64 s.m5,.slice (Sq.a s) (Sq.l s) (Sq.c s)]
def scs (s:Sq):List Value:=[.int .i64 s.w,.int .i64 s.k,.int .u64 s.n,.int .u64 s.u0,.int .u64 s.u1,.int .u64 s.u2,.int .u64 s.u3,.int .u64 s.u4,.int .u64 s.u5,.int .u64 s.m0,.int .u64 s.m1,.int .u64 s.m2,.int .u64 s.m3,.int .u64 s.m4,.int .u64 s.m5,.slice (Sq.a s) (Sq.l s) (Sq.c s)]
structure Sqr (s:Sq):Prop where
 n:Uq s.n
 u0:Uq s.u0
 u1:Uq s.u1
 u2:Uq s.u2
 u3:Uq s.u3
 u4:Uq s.u4
 u5:Uq s.u5
 m0:Uq s.m0
 m1:Uq s.m1
 m2:Uq s.m2
 m3:Uq s.m3
 m4:Uq s.m4
 m5:Uq s.m5
 x:0<=s.x
structure mJ (w:World) (ao:Option Addr) (n b o:Nat) (st:Nat->Sq):Prop where
 ptr:0 < n->ao=some ⟨b,o,none⟩
 cell:∀ i,i < n->∀ j v,(scs (st i))[j]?=some v->w.cell? ⟨b,o+i * 16+j,none⟩=some v
 rng:∀ i,i < n->Sqr (st i)
 nat:∀ i,i < n->Nk w (fun b=>w.heap.size<=b) (st i).z (st i).a (st i).l (st i).c (st i).x
 few:n<=9223372036854775807
theorem mJ.nk {w V:World} {ao:Option Addr} {n b o:Nat} {st:Nat->Sq} {K:Nat->Prop} (h:mJ w ao n b o st) {i:Nat} (hi:i < n) (g:Below w.heap.size w V) (f:∀ b,K b->w.heap.size<=b):Nk V K (st i).z (st i).a (st i).l (st i).c (st i).x:=by
 have q:=(h.nat i hi).keep g;refine⟨q.lt,q.out.imp_right fun e d=>e (f _ d),q.to⟩
theorem ld_stp {w:World} {g o:Nat} {s:Sq} (c:∀ j v,(scs s)[j]?=some v->w.cell? ⟨g,o+j,none⟩=some v):(loadVar 50 ⟨g,o,none⟩).run Tryz.prog w=.ok (.agg (scA s)) w:=by
 have c0:=c 0 _ rfl;have c1:=c 1 _ rfl;have c2:=c 2 _ rfl;have n:=c 3 _ rfl;have x:=c 4 _ rfl;have q:=c 5 _ rfl;have u:=c 6 _ rfl;have t:=c 7 _ rfl;have p:=c 8 _ rfl;have r:=c 9 _ rfl;have d:=c 10 _ rfl;have l:=c 11 _ rfl;have b:=c 12 _ rfl;have f:=c 13 _ rfl;have i:=c 14 _ rfl;have m:=c 15 _ rfl;clear c;simp only[Nat.add_zero] at c0;go_simp;rfl
section
variable {ρ:Operand->Value} {o:Oper} {w W:World} {b off n k:Nat} {ao:Option Addr} {st:Nat->Sq}
theorem run_lS (S:mJ w ao n b off st) (d:k < n) (B:Below w.heap.size w W) (c:∃ p,o.op=.load 50 p/\ρ p=.pointer (some ⟨b,off+k * 16,none⟩):=by exact⟨_,rfl,by kernel_rfl⟩):(execOp ρ o).run Tryz.prog W=.ok (.value (.agg (scA (st k)))) W:=by
 obtain⟨p,h,a⟩:=c;have:=ld_stp (s:=st k) (w:=W) (g:=b) (o:=off+k * 16) (fun j v e=>gB B (S.cell k d j v e));simp only[execOp,h,a];simp[Instr.loadAt,Instr.sureAddr,Result.andThen,this]
theorem run_lN (S:mJ w ao n b off st) (g:k < n) (B:Below w.heap.size w W) (f:∃ p,o.op=.load 44 p/\ρ p=.pointer (some ⟨b,off+k * 16+15,none⟩):=by exact⟨_,rfl,by kernel_rfl⟩):(execOp ρ o).run Tryz.prog W=.ok (.value (.slice (st k).a (st k).l (st k).c)) W:=by
 obtain⟨p,h,d⟩:=f;have c0:=gB B (S.cell k g 15 _ rfl);have:(loadVar 44 ⟨b,off+k * 16+15,none⟩).run Tryz.prog W=.ok (.slice (st k).a (st k).l (st k).c) W:=by go_simp
 simp only[execOp,h,d];simp[Instr.loadAt,Instr.sureAddr,Result.andThen,this]
end
section
variable {E:ay} {nx:Int} {A:List Qe} {s:Sq}
theorem Qs.unb (h:Qs E nx A) (a:nx+1 < 18446744073709551616) (hA:A.length<=100000) (r:Sqr s):Qs (eS E 12 (uv s.u0 s.u1 s.u2 s.u3 s.u4 s.u5) s.u0 s.u1 s.u3) (nx+1) (A ++ [⟨nx,12,s.u0,s.u1,s.u3⟩]):=by
 obtain⟨d,b,_,c,_⟩:=vL r.u0 r.u1 r.u2 r.u3 r.u4 r.u5;exact h.begin a hA (e:=⟨nx,12,s.u0,s.u1,s.u3⟩) rfl (.inl rfl) r.u0 r.u1 r.u3 ⟨(fun _=>⟨d,b,c⟩),(fun q=>absurd (show (12:Int)=13 from q) (by decide))⟩
theorem Qs.mov (h:Qs E nx A) (a:nx+1 < 18446744073709551616) (hA:A.length<=100000) (r:Sqr s):Qs (eS E 13 (mv s.m0 s.m1 s.m2 s.m3 s.m4 s.m5 s.x) s.m0 s.m1 s.m4) (nx+1) (A ++ [⟨nx,13,s.m0,s.m1,s.m4⟩]):=by
 obtain⟨⟨d,b,_⟩,⟨_,c,_⟩,_⟩:=wg r.m0 r.m1 r.m2 r.m3 r.m4 r.m5 r.x;exact h.begin a hA (e:=⟨nx,13,s.m0,s.m1,s.m4⟩) rfl (.inr rfl) r.m0 r.m1 r.m4 ⟨(fun q=>absurd (show (13:Int)=12 from q) (by decide)),(fun _=>⟨d,b,c⟩)⟩
end
theorem yt {w : World} {ao : Option Addr} {n c f d : Nat} {st : Nat → Sq} (o : mJ w ao n f d st) : Calls Tryz.prog 5 #[.slice ao n c] w fun e w' => ∃ b, e = .returned (.bool b) ∧ (b = true → n ≤ 150 ∧ ∀ k, k < n → (st k).l ≤ 30) ∧ Below w.heap.size w w' := by
  have x:=o.few;have j:=Below.refl w.heap.size w;refine aC (n:=26) Tryz.func5 rfl ?_
  refine ab (ag (t 2 (bF) (ae (aa (ab (ab (ag (t 3 (iI 0) (ae (aa (bj (ic (fun s=>n - s) (fun(s:Nat)=>[(0,.slice ao n c),(3,iI (s:Int))]) (fun s w'=>s≤n∧s≤151∧Below w.heap.size w w'∧∀ k,k < s→(st k).l≤30) (0:Nat) ⟨Nat.zero_le _,Nat.zero_le _,j,fun k h=>absurd h (Nat.not_lt_zero _)⟩ (by kernel_rfl) ?_))))))))))));clear j;rintro i v1 ⟨hi,y,j,m⟩;refine ab (ab (ag (t 4 (iI (i:Int)) (t 5 (.slice ao n c) (t 6 (iI ((n:Nat):Int)) ?_)))));by_cases ci:(i:Int) < ((n:Nat):Int)
  · have g : i < n := by omega
    refine tq 7 (.bool (decide ((i:Int) < ((n:Nat):Int)))) (bT) (congrArg Value.bool (decide_eq_true ci)) (t 8 (bT) (t 9 (iI (i:Int)) ?_));by_cases c2:(i:Int)≤150
    · refine tq 10 (.bool (decide ((i:Int)≤150))) (bT) (congrArg Value.bool (decide_eq_true c2)) ?_
      refine t 11 (bT) (ae (aa (aP (aK (aa (ab (bj (ab (ag (t 14 (.slice ao n c) (t 15 (iI (i:Int)) (tr 16 (pq f (d+i * 16)) (ik 16 f d n c i g o.ptr) (t 17 (pq f (d+i * 16+9)) (t 18 (pq f (d+i * 16+9+6)) (t 19 (pq f (d+i * 16+9+6)) (tr 20 (.slice (Sq.a (st i)) (Sq.l (st i)) (Sq.c (st i))) (run_lN o g j) (t 21 (iI ((Sq.l (st i):Nat):Int)) ?_)))))))))))))))));by_cases p:(30:Int) < ((Sq.l (st i):Nat):Int)
      · refine tq 22 (.bool (decide ((30:Int) < ((Sq.l (st i):Nat):Int)))) (bT) (congrArg Value.bool (decide_eq_true p)) ?_
        refine ae (aa (aG [(0,.slice ao n c),(3,iI (i:Int)),(4,iI (i:Int)),(5,.slice ao n c),(6,iI ((n:Nat):Int)),(7,bT),(8,bT),(9,iI (i:Int)),(10,bT),(11,bT),(14,.slice ao n c),(15,iI (i:Int)),(16,pq f (d+i * 16)),(17,pq f (d+i * 16+9)),(18,pq f (d+i * 16+9+6)),(19,pq f (d+i * 16+9+6)),(20,.slice (Sq.a (st i)) (Sq.l (st i)) (Sq.c (st i))),(21,iI ((Sq.l (st i):Nat):Int)),(22,bT)] (aP (ab (ag (t 2 (bF) (ae (aa (aF (jB (dm (dm (jB (dm (aE (bF) (rs1 2 (by kernel_rfl) (by kernel_rfl)) ?_)))))))))))))));exact⟨false,rfl,(fun h=>by cases h),j⟩
      · refine tq 22 (.bool (decide ((30:Int) < ((Sq.l (st i):Nat):Int)))) (bF) (congrArg Value.bool (decide_eq_false p)) ?_
        refine ae (aa (aG [(0,.slice ao n c),(3,iI (i:Int)),(4,iI (i:Int)),(5,.slice ao n c),(6,iI ((n:Nat):Int)),(7,bT),(8,bT),(9,iI (i:Int)),(10,bT),(11,bT),(14,.slice ao n c),(15,iI (i:Int)),(16,pq f (d+i * 16)),(17,pq f (d+i * 16+9)),(18,pq f (d+i * 16+9+6)),(19,pq f (d+i * 16+9+6)),(20,.slice (Sq.a (st i)) (Sq.l (st i)) (Sq.c (st i))),(21,iI ((Sq.l (st i):Nat):Int)),(22,bF)] (aW (aK (dk (aa (ag (t 12 (iI (i:Int)) (tq 13 (iI (IntKind.i64.wrap ((i:Int)+1))) (iI ((i:Int)+1)) (wi (by omega)) (t 3 (iI ((i:Int)+1)) (ae ?_)))))))))))
        exact dK (i + 1) (by show n - (i + 1) < n - i; omega) ⟨g, by omega, j, fun k r => by
                      rcases Nat.lt_or_ge k i with u | u
                      · exact m k u
                      · have : k = i := by omega
                        subst this;have z:=p
                        omega⟩ (by kernel_rfl)
    · refine tq 10 (.bool (decide ((i:Int)≤150))) (bF) (congrArg Value.bool (decide_eq_false c2)) ?_
      refine t 11 (bF) (ae (aa (aW (dM (dC (dC (gy (aa (ab (ag (t 23 (.slice ao n c) (t 24 (iI ((n:Nat):Int)) ?_))))))))))));by_cases q:((n:Nat):Int)≤150
      · refine tq 25 (.bool (decide (((n:Nat):Int)≤150))) (bT) (congrArg Value.bool (decide_eq_true q)) ?_
        refine t 2 (bT) (ae (aa (aG [(2,bT)] (aF (aE (bT) (rs1 2 (by kernel_rfl) (by kernel_rfl)) ?_)))));exact⟨true,rfl,fun _=>⟨by omega,fun k r=>m k (by omega)⟩,j⟩
      · refine tq 25 (.bool (decide (((n:Nat):Int)≤150))) (bF) (congrArg Value.bool (decide_eq_false q)) ?_
        refine t 2 (bF) (ae (aa (aG [(2,bF)] (aF (aE (bF) (rs1 2 (by kernel_rfl) (by kernel_rfl)) ?_)))));exact⟨false,rfl,(fun h=>by cases h),j⟩
  · refine tq 7 (.bool (decide ((i:Int) < ((n:Nat):Int)))) (bF) (congrArg Value.bool (decide_eq_false ci)) ?_
    refine t 8 (bF) (tn 9 (tn 10 (t 11 (bF) (ae (aa (aW (dM (dC (dC (gy (aa (ab (ag (t 23 (.slice ao n c) (t 24 (iI ((n:Nat):Int)) ?_)))))))))))))));by_cases v:((n:Nat):Int)≤150
    · refine tq 25 (.bool (decide (((n:Nat):Int)≤150))) (bT) (congrArg Value.bool (decide_eq_true v)) ?_
      refine t 2 (bT) (ae (aa (aG [(2,bT)] (aF (aE (bT) (rs1 2 (by kernel_rfl) (by kernel_rfl)) ?_)))));exact⟨true,rfl,fun _=>⟨by omega,fun k r=>m k (by omega)⟩,j⟩
    · refine tq 25 (.bool (decide (((n:Nat):Int)≤150))) (bF) (congrArg Value.bool (decide_eq_false v)) ?_
      refine t 2 (bF) (ae (aa (aG [(2,bF)] (aF (aE (bF) (rs1 2 (by kernel_rfl) (by kernel_rfl)) ?_)))));exact⟨false,rfl,(fun h=>by cases h),j⟩
end Qu
end
section
namespace Qu
open Go.RowKit Go.Lib Pg Lim Gl Kv Bk Pw
attribute [local go_sem] Oper.semAt_some
set_option linter.unusedVariables false
set_option linter.unusedSimpArgs false
theorem mJ.keep {w V:World} {ao:Option Addr} {n b o:Nat} {st:Nat->Sq} (h:mJ w ao n b o st) (a:Below w.heap.size w V):mJ V ao n b o st :=
 ⟨h.ptr,fun i hi j v d=>gB a (h.cell i hi j v d),h.rng,fun i hi=>by
  have q:=(h.nat i hi).keep a;have:=a.size
  exact⟨q.lt,q.out.imp_right fun e c=>e (Nat.le_trans this c),q.to⟩,h.few⟩
section
variable {E:ay} {n0:Int} {st:Nat->Sq} {i:Nat}
end
end Qu
end
end Go.Proofs.YtidnifmehnjipaaGreat
