import Derived.Test.YtidnifmehnjipaaGreatJaw
set_option maxRecDepth 100000
set_option maxHeartbeats 8000000
namespace Go.Proofs.YtidnifmehnjipaaGreat
namespace Qu
open Go.RowKit Go.Lib Pg Lim Gl Kv Bk Pw
attribute [local go_sem] Oper.semAt_some
set_option linter.unusedVariables false
set_option linter.unusedSimpArgs false
section
variable {n g off B c c' n':Nat}{w:World}{u v y b:Value}{ρ:Operand->Value}{o:Oper}{x:Int}{a a':Option Addr}{cs:List Value}
theorem rscc{P:Program}{l:Fr}{fn:Func}(j k:Nat){T U:TypeId}{g':Nat}(h:fn.results=#[.cell j T,.cell k U])(hu:lk l j=some (.pointer (some ⟨g,0,none⟩)))(f:lk l k=some (.pointer (some ⟨g',0,none⟩)))(e:(loadVar T ⟨g,0,none⟩).run P w=.ok u w)(b:(loadVar U ⟨g',0,none⟩).run P w=.ok v w)(a:Act)(r:Rd n [] l a):(results fn a.tmps).run P w=.ok (.tuple #[u,v]) w:=by
 have d:=r.gD hu;have c:=r.gD f;simp at d c;simp[results,h,d,c,asAddr,e,b]
theorem DR(b:∃ u,o.op=.convert 22 3 u/\ρ u=.int .u64 x:=by exact⟨_,rfl,by kernel_rfl⟩):(execOp ρ o).run Tryz.prog w=.ok (.value (.int .i64 (wrap64 x))) w:=by
 obtain⟨u,h,c⟩:=b;simp only[execOp,h,c];go_simp;rw[IntKind.wrap_i64];unfold wrap64;rfl
theorem Cw{k:Int}(hx:wrap64 x=k)(ho:∃ u,o.op=.convert 22 3 u/\ρ u=.int .u64 x:=by exact⟨_,rfl,by kernel_rfl⟩):(execOp ρ o).run Tryz.prog w=.ok (.value (.int .i64 k)) w:=by
 subst hx;exact DR ho
theorem iJ{y:Int}(b:∃ u v,o.op=.build 61 #[(0,u),(1,v)]/\ρ u=.int .u64 x/\ρ v=.int .i64 y:=by exact⟨_,_,rfl,by kernel_rfl,by kernel_rfl⟩):(execOp ρ o).run Tryz.prog w=.ok (.value (.agg #[.int .u64 x,.int .i64 y])) w:=by
 obtain⟨u,v,h,d,c⟩:=b;simp only[execOp,h,d,c];go_simp
theorem De{y x' y':Int}(d:x=x')(c:y=y')(b:∃ u v,o.op=.binOp .neq 61 u v 61/\ρ u=.agg #[.int .u64 x,.int .i64 y]/\ρ v=.agg #[.int .u64 x',.int .i64 y']:=by exact⟨_,_,rfl,by kernel_rfl,by kernel_rfl⟩):(execOp ρ o).run Tryz.prog w=.ok (.value (.bool false)) w:=by
 obtain⟨u,v,h,e1,e2⟩:=b;subst d c;simp only[execOp,h,e1,e2];go_simp
theorem ld_en{o:Nat}{a:Value}(c0:w.cell? ⟨g,o,none⟩=some a)(c1:w.cell? ⟨g,o+1,none⟩=some b):(loadVar 61 ⟨g,o,none⟩).run Tryz.prog w=.ok (.agg #[a,b]) w:=by go_simp
theorem vJ{b:Nat}{x:Value}(c0:w.cell? ⟨b,off,none⟩=some x)(c1:w.cell? ⟨b,off+1,none⟩=some y)(c:∃ p,o.op=.load 61 p/\ρ p=.pointer (some ⟨b,off,none⟩):=by exact⟨_,rfl,by kernel_rfl⟩):(execOp ρ o).run Tryz.prog w=.ok (.value (.agg #[x,y])) w:=by
 obtain⟨p,h,a⟩:=c;have:=ld_en c0 c1;simp only[execOp,h,a];simp[Instr.loadAt,Instr.sureAddr,Result.andThen,this]
theorem Ci{o:Nat}{a:Value}(c0:w.cell? ⟨g,o,none⟩=some a)(c1:w.cell? ⟨g,o+1,none⟩=some b):(loadVar 96 ⟨g,o,none⟩).run Tryz.prog w=.ok (.agg #[a,b]) w:=by go_simp
theorem wA{b:Nat}{x:Value}(c0:w.cell? ⟨b,off,none⟩=some x)(c1:w.cell? ⟨b,off+1,none⟩=some y)(c:∃ p,o.op=.load 96 p/\ρ p=.pointer (some ⟨b,off,none⟩):=by exact⟨_,rfl,by kernel_rfl⟩):(execOp ρ o).run Tryz.prog w=.ok (.value (.agg #[x,y])) w:=by
 obtain⟨p,h,a⟩:=c;have:=Ci c0 c1;simp only[execOp,h,a];simp[Instr.loadAt,Instr.sureAddr,Result.andThen,this]
theorem wF{w':World}{r:Value}(c:(Builtin.append_ #[74,74] 74 #[u,v]).run Tryz.prog w=.ok r w')(a:∃ x y,o.op=.call { callee:=.builtin .append,args:=#[x,y],argTypes:=#[74,74] }/\o.type=74/\ρ x=u/\ρ y=v:=by exact⟨_,_,rfl,rfl,by kernel_rfl,by kernel_rfl⟩):(execOp ρ o).run Tryz.prog w=.ok (.value r) w':=by
 obtain⟨x,y,h,d,e,b⟩:=a;unfold execOp;simp only[h,d,resolve,invoke,builtin,Sem.run_bind,Sem.run_pure,Result.andThen_ok,List.map_toArray,List.map_cons,List.map_nil,e,b,c]
theorem EA.cells{l:List (Int × Int)}(h:EA w B (.slice a n c) l):n=l.length/\∃ pb,(0 < n->a=some ⟨pb,0,none⟩)/\∀ i,i < n->w.cell? ⟨pb,0+i * 2,none⟩=some (.int .u64 (l.getD i (0,0)).1)/\w.cell? ⟨pb,0+i * 2+1,none⟩=some (.int .i64 (l.getD i (0,0)).2):=by
 have key:∀ (l:List (Int × Int)) (i:Nat),i < l.length->(ecl l)[i * 2]?=some (.int .u64 (l.getD i (0,0)).1)/\(ecl l)[i * 2+1]?=some (.int .i64 (l.getD i (0,0)).2):=by
  intro l
  induction l with
  | nil=>intro i h;simp at h
  | cons p l ih =>
   intro i h
   match i with
   | 0=>exact⟨rfl,rfl⟩
   | i + 1 =>
    have:=ih i (by simpa using h)
    have e:ecl (p :: l)=.int .u64 p.1 :: .int .i64 p.2 :: ecl l:=rfl;rw[e,show (i+1) * 2=i * 2+1+1 by omega];simpa using this
 rcases h.ex with⟨e,rfl⟩ | ⟨b,c',e,_,hR⟩
 ·cases e;exact⟨rfl,0,fun h=>by omega,fun i h=>by omega⟩
 ·cases e;refine⟨rfl,b,fun _=>rfl,fun i hi=>?_⟩;rw[Nat.zero_add];exact⟨hR.cell (key l i hi).1,hR.cell (key l i hi).2⟩
theorem j8(l:List (Int × Int))(X:Blk w g cs 61)(e:cs=ecl l)(b:B<=g)(a:l.length<=1000000):EA w B (sg l.length g) l:=by
 subst e;exact⟨.inr ⟨g,l.length,rfl,b,⟨[],by simpa using X,vY l,by simpa using vY l,Nat.le_refl _,Nat.le_trans a (by decide)⟩⟩⟩
theorem ux{j d:Nat}{xs g:Nat->Int}(hn:n<=9000000000000000000)(m:0 < n->a=some ⟨j,0,none⟩)(l:0 < n->a'=some ⟨d,0,none⟩)(hc:∀ i,i < n->w.cell? ⟨j,0 + i * 2,none⟩=some (.int .u64 (xs i))/\w.cell? ⟨j,0 + i * 2 + 1,none⟩=some (.int .i64 (g i)))(k:∀ i,i < n->w.cell? ⟨d,0 + i * 2,none⟩=some (.int .u64 (xs i))/\w.cell? ⟨d,0 + i * 2 + 1,none⟩=some (.int .i64 (g i))):Calls Tryz.prog 28 #[.slice a n c,.slice a' n c'] w fun e w'=>e=.returned (.bool true)/\Below w.heap.size w w':=by
 have f:=Below.refl w.heap.size w;refine aC (n:=26) Tryz.func28 rfl ?_
 refine ab (ag (t 4 (bF) (ae (aa (ab (ab (ag (t 6 (.slice a n c) (t 7 (iI ((n:Nat):Int)) (t 8 (.slice a' n c') (t 9 (iI ((n:Nat):Int)) (tq 10 (.bool (((n:Nat):Int) != ((n:Nat):Int))) (bF) (congrArg Value.bool (bne_self_eq_false _)) (ae (aa (aW (aK (aa (ab (ab (ag (t 5 (iI 0) (ae (aa (bj (ic (fun s=>n - s) (fun(s:Nat)=>[(0,.slice a n c),(1,.slice a' n c'),(5,iI (s:Int))]) (fun s w'=>s<=n/\Below w.heap.size w w') (0:Nat) ⟨Nat.zero_le _,f⟩ (by kernel_rfl) ?_)))))))))))))))))))))))));clear f;rintro i v1 ⟨hi,f⟩;refine ab (ab (ag (t 11 (iI (i:Int)) (t 12 (.slice a n c) (t 13 (iI ((n:Nat):Int)) ?_)))));by_cases ci:(i:Int) < ((n:Nat):Int)
 ·have b:i < n:=by omega
  refine tq 14 (.bool (decide ((i:Int) < ((n:Nat):Int)))) (bT) (congrArg Value.bool (decide_eq_true ci)) (ae (aa (aP (aK (aa (ab (bj (ab ?_))))))));replace f:=f.drew;refine bI (fun w'=>Below w.heap.size w w') (fun _=>false) f ?_
  exact z 0 17 (.slice a n c) (z 1 18 (iI (i:Int)) (zr 2 19 (pq j (0+i * 2)) (fun _ h=>ik 2 j 0 n c i b m) (zr 3 20 (.agg #[iU (xs i),iI (g i)]) (fun _ h=>vJ (gB h (hc i b).1) (gB h (hc i b).2)) (z 4 21 (.slice a' n c') (z 5 22 (iI (i:Int)) (zr 6 23 (pq d (0+i * 2)) (fun _ h=>ik 2 d 0 n c' i b l) (zr 7 24 (.agg #[iU (xs i),iI (g i)]) (fun _ h=>vJ (gB h (k i b).1) (gB h (k i b).2)) (zr 8 25 (bF) (fun _ _=>De (x:=xs i) (y:=g i) (x':=xs i) (y':=g i) rfl rfl) (bB (aa (aG [(0,.slice a n c),(1,.slice a' n c'),(5,iI (i:Int)),(11,iI (i:Int)),(12,.slice a n c),(13,iI ((n:Nat):Int)),(14,bT),(17,.slice a n c),(18,iI (i:Int)),(19,pq j (0+i * 2)),(20,.agg #[iU (xs i),iI (g i)]),(21,.slice a' n c'),(22,iI (i:Int)),(23,pq d (0+i * 2)),(24,.agg #[iU (xs i),iI (g i)]),(25,bF)] (aW (aK (dk (aa (ag (t 15 (iI (i:Int)) (tq 16 (iI (IntKind.i64.wrap ((i:Int)+1))) (iI ((i:Int)+1)) (wi (by omega)) (t 5 (iI ((i:Int)+1)) (ae (dK (i+1) (by show n - (i+1) < n - i;omega) ⟨b,f⟩ (by kernel_rfl))))))))))))))))))))))
 ·refine tq 14 (.bool (decide ((i:Int) < ((n:Nat):Int)))) (bF) (congrArg Value.bool (decide_eq_false ci)) (ae (aa (aW (dM (dC (dC (gy (aa (ab (ag (t 4 (bT) (ae (aa (aF (aE (bT) (rs1 4 (by kernel_rfl) (by kernel_rfl)) ?_)))))))))))))));exact⟨rfl,f⟩
theorem dx{B':Nat}{l:List (Int × Int)}(h:EA w B u l)(f:EA w B' v l)(g:l.length<=9000000000000000000):Calls Tryz.prog 28 #[u,v] w fun e w'=>e=.returned (.bool true)/\Below w.heap.size w w':=by
 obtain⟨a,c,rfl⟩:=h.shape;obtain⟨n,m,rfl⟩:=f.shape;obtain⟨_,o,k,i⟩:=h.cells;obtain⟨_,j,d,b⟩:=f.cells;exact ux g k d i b
theorem nSameQ(h:gF w a n c x)(d:gF w a' n' c' x)(hn:n<=1000000)(b:n'<=1000000):Calls Tryz.prog 118 #[.slice a n c,.slice a' n' c'] w fun e w'=>e=.returned (.bool true)/\Below w.heap.size w w':=by
 have t:=nSame h d (by omega) (by omega);rw[decide_eq_true (show x=x from rfl)] at t;exact t
theorem zo(h:gF w a n c x)(d:gF w a' n' c' x)(hn:n<=1000000)(i:n'<=1000000):Calls Tryz.prog 68 #[.agg #[.slice a n c],.agg #[.slice a' n' c']] w fun e w'=>e=.returned (.bool true)/\Below w.heap.size w w':=by
 have f:=Below.refl w.heap.size w;refine aC (n:=10) Tryz.func68 rfl ?_
 refine ab (ag (ta 2 [.slice a n c] 46 (pg) ?_));intro v1 k b l B;replace f:=ai f B;replace h:=h.keep B;replace d:=d.keep B;refine ta 3 [.slice a' n' c'] 46 (pg) ?_
 intro o m g j B;replace f:=ai f B;replace h:=h.keep B;replace d:=d.keep B;replace b:=b.keep B;refine t 4 (bF) (ae (aa (ab (ag (t 5 (pg k) (tl 6 (.slice a n c) b 0 (t 7 (pg m) (tl 8 (.slice a' n' c') g 0 (tc 9 118 #[.slice a n c,.slice a' n' c'] (nSameQ h d hn i) ?_)))))))));rintro _ p ⟨rfl,B⟩;refine⟨_,rfl,?_⟩;replace f:=ai f B;replace h:=h.keep B;replace d:=d.keep B;replace b:=b.keep B;replace g:=g.keep B;refine t 4 (bT) (ae (aa (aF (aE (bT) (rs1 4 (by kernel_rfl) (by kernel_rfl)) ?_))));exact⟨rfl,f⟩
theorem oI{x0 x1 x2 x3 x4 x5:Int}(h:gF w a n c x)(f:gF w a' n' c' x)(hn:n<=1000000)(k:n'<=1000000):Calls Tryz.prog 27 #[.agg #[.int .u64 x0,.int .u64 x1,.int .u64 x2,.int .u64 x3,.int .u64 x4,.int .u64 x5,.slice a n c],.agg #[.int .u64 x0,.int .u64 x1,.int .u64 x2,.int .u64 x3,.int .u64 x4,.int .u64 x5,.slice a' n' c']] w fun e w'=>e=.returned (.bool true)/\Below w.heap.size w w':=by
 have i:=Below.refl w.heap.size w;refine aC (n:=52) Tryz.func27 rfl ?_
 refine ab (ag (ta 2 [iU x0,iU x1,iU x2,iU x3,iU x4,iU x5,.slice a n c] 48 (pg) ?_));intro v1 j b m B;replace i:=ai i B;replace h:=h.keep B;replace f:=f.keep B;refine ta 3 [iU x0,iU x1,iU x2,iU x3,iU x4,iU x5,.slice a' n' c'] 48 (pg) ?_
 intro o g d l B;replace i:=ai i B;replace h:=h.keep B;replace f:=f.keep B;replace b:=b.keep B;refine t 4 (bF) (ae (aa (ab (ag (t 5 (pg j) (tl 6 (iU x0) b 0 (t 7 (pg g) (tl 8 (iU x0) d 0 (tq 9 (.bool ((x0:Int) == x0)) (bT) (congrArg Value.bool (beq_self_eq_true _)) (t 10 (bT) (t 11 (pq j 1) (tl 12 (iU x1) b 1 (t 13 (pq g 1) (tl 14 (iU x1) d 1 (tq 15 (.bool ((x1:Int) == x1)) (bT) (congrArg Value.bool (beq_self_eq_true _)) (t 16 (bT) (t 17 (bT) (t 18 (pq j 2) (tl 19 (iU x2) b 2 (t 20 (pq g 2) (tl 21 (iU x2) d 2 (tq 22 (.bool ((x2:Int) == x2)) (bT) (congrArg Value.bool (beq_self_eq_true _)) (t 23 (bT) (t 24 (bT) (t 25 (pq j 3) (tl 26 (iU x3) b 3 (t 27 (pq g 3) (tl 28 (iU x3) d 3 (tq 29 (.bool ((x3:Int) == x3)) (bT) (congrArg Value.bool (beq_self_eq_true _)) (t 30 (bT) (t 31 (bT) (t 32 (pq j 4) (tl 33 (iU x4) b 4 (t 34 (pq g 4) (tl 35 (iU x4) d 4 (tq 36 (.bool ((x4:Int) == x4)) (bT) (congrArg Value.bool (beq_self_eq_true _)) (t 37 (bT) (t 38 (bT) (t 39 (pq j 5) (tl 40 (iU x5) b 5 (t 41 (pq g 5) (tl 42 (iU x5) d 5 (tq 43 (.bool ((x5:Int) == x5)) (bT) (congrArg Value.bool (beq_self_eq_true _)) (t 44 (bT) (t 45 (bT) (t 46 (pq j 6) ?_))))))))))))))))))))))))))))))))))))))))))))));refine tlr 47 [.slice a n c] b 6 (t 48 (pq g 6) (tlr 49 [.slice a' n' c'] d 6 (tc 50 68 #[.agg #[.slice a n c],.agg #[.slice a' n' c']] (zo h f hn k) ?_)));rintro _ p ⟨rfl,B⟩;refine⟨_,rfl,?_⟩;replace i:=ai i B;replace h:=h.keep B;replace f:=f.keep B;replace b:=b.keep B;replace d:=d.keep B;refine t 51 (bT) (t 4 (bT) (ae (aa (aG [(4,bT)] (aF (aE (bT) (rs1 4 (by kernel_rfl) (by kernel_rfl)) ?_))))));exact⟨rfl,i⟩
end
end Qu
end Go.Proofs.YtidnifmehnjipaaGreat
