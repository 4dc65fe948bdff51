/- Several texts, joined: QuV. -/
import Derived.Test.YtidnifmehnjipaaGreatJaw
import Derived.Test.YtidnifmehnjipaaGreatJar
set_option maxRecDepth 100000
set_option maxHeartbeats 8000000
namespace Go.Proofs.YtidnifmehnjipaaGreat
namespace Qu
open Go.RowKit Go.Lib Pg Lim Gl Kv Bk Pw
attribute [local go_sem] Oper.semAt_some
set_option linter.unusedVariables false
set_option linter.unusedSimpArgs false
section
variable {n g off B c c' n':Nat}{w:World}{u v y b:Value}{ρ:Operand->Value}{o:Oper}{x:Int}{a a':Option Addr}{cs:List Value}
theorem rscc{P:Program}{l:Fr}{fn:Func}(j k:Nat){T U:TypeId}{g':Nat}(h:fn.results=#[.cell j T,.cell k U])(hu:lk l j=some (.pointer (some ⟨g,0,none⟩)))(f:lk l k=some (.pointer (some ⟨g',0,none⟩)))(e:(loadVar T ⟨g,0,none⟩).run P w=.ok u w)(b:(loadVar U ⟨g',0,none⟩).run P w=.ok v w)(a:Act)(r:Rd n [] l a):(results fn a.tmps).run P w=.ok (.tuple #[u,v]) w:=by
 have d:=r.gD hu;have c:=r.gD f;simp at d c;simp[results,h,d,c,asAddr,e,b]
theorem DF(b:∃ u,o.op=.convert 22 3 u/\ρ u=.int .u64 x:=by exact⟨_,rfl,by kernel_rfl⟩):(execOp ρ o).run Tryz.prog w=.ok (.value (.int .i64 (wrap64 x))) w:=by
 obtain⟨u,h,c⟩:=b;simp only[execOp,h,c];go_simp;rw[IntKind.wrap_i64];unfold wrap64;rfl
theorem Ck{k:Int}(hx:wrap64 x=k)(ho:∃ u,o.op=.convert 22 3 u/\ρ u=.int .u64 x:=by exact⟨_,rfl,by kernel_rfl⟩):(execOp ρ o).run Tryz.prog w=.ok (.value (.int .i64 k)) w:=by
 subst hx;exact DF ho
theorem iE{y:Int}(b:∃ u v,o.op=.build 61 #[(0,u),(1,v)]/\ρ u=.int .u64 x/\ρ v=.int .i64 y:=by exact⟨_,_,rfl,by kernel_rfl,by kernel_rfl⟩):(execOp ρ o).run Tryz.prog w=.ok (.value (.agg #[.int .u64 x,.int .i64 y])) w:=by
 obtain⟨u,v,h,d,c⟩:=b;simp only[execOp,h,d,c];go_simp
theorem CT{y x' y':Int}(d:x=x')(c:y=y')(b:∃ u v,o.op=.binOp .neq 61 u v 61/\ρ u=.agg #[.int .u64 x,.int .i64 y]/\ρ v=.agg #[.int .u64 x',.int .i64 y']:=by exact⟨_,_,rfl,by kernel_rfl,by kernel_rfl⟩):(execOp ρ o).run Tryz.prog w=.ok (.value (.bool false)) w:=by
 obtain⟨u,v,h,e1,e2⟩:=b;subst d c;simp only[execOp,h,e1,e2];go_simp
theorem ld_en{o:Nat}{a:Value}(c0:w.cell? ⟨g,o,none⟩=some a)(c1:w.cell? ⟨g,o+1,none⟩=some b):(loadVar 61 ⟨g,o,none⟩).run Tryz.prog w=.ok (.agg #[a,b]) w:=by go_simp
theorem vy{b:Nat}{x:Value}(c0:w.cell? ⟨b,off,none⟩=some x)(c1:w.cell? ⟨b,off+1,none⟩=some y)(c:∃ p,o.op=.load 61 p/\ρ p=.pointer (some ⟨b,off,none⟩):=by exact⟨_,rfl,by kernel_rfl⟩):(execOp ρ o).run Tryz.prog w=.ok (.value (.agg #[x,y])) w:=by
 obtain⟨p,h,a⟩:=c;have:=ld_en c0 c1;simp only[execOp,h,a];simp[Instr.loadAt,Instr.sureAddr,Result.andThen,this]
theorem BR{o:Nat}{a:Value}(c0:w.cell? ⟨g,o,none⟩=some a)(c1:w.cell? ⟨g,o+1,none⟩=some b):(loadVar 96 ⟨g,o,none⟩).run Tryz.prog w=.ok (.agg #[a,b]) w:=by go_simp
theorem wb{b:Nat}{x:Value}(c0:w.cell? ⟨b,off,none⟩=some x)(c1:w.cell? ⟨b,off+1,none⟩=some y)(c:∃ p,o.op=.load 96 p/\ρ p=.pointer (some ⟨b,off,none⟩):=by exact⟨_,rfl,by kernel_rfl⟩):(execOp ρ o).run Tryz.prog w=.ok (.value (.agg #[x,y])) w:=by
 obtain⟨p,h,a⟩:=c;have:=BR c0 c1;simp only[execOp,h,a];simp[Instr.loadAt,Instr.sureAddr,Result.andThen,this]
theorem wj{w':World}{r:Value}(c:(Builtin.append_ #[74,74] 74 #[u,v]).run Tryz.prog w=.ok r w')(a:∃ x y,o.op=.call { callee:=.builtin .append,args:=#[x,y],argTypes:=#[74,74] }/\o.type=74/\ρ x=u/\ρ y=v:=by exact⟨_,_,rfl,rfl,by kernel_rfl,by kernel_rfl⟩):(execOp ρ o).run Tryz.prog w=.ok (.value r) w':=by
 obtain⟨x,y,h,d,e,b⟩:=a;unfold execOp;simp only[h,d,resolve,invoke,builtin,Sem.run_bind,Sem.run_pure,Result.andThen_ok,List.map_toArray,List.map_cons,List.map_nil,e,b,c]
theorem EA.cells{l:List (Int × Int)}(h:EA w B (.slice a n c) l):n=l.length/\∃ pb,(0 < n->a=some ⟨pb,0,none⟩)/\∀ i,i < n->w.cell? ⟨pb,0+i * 2,none⟩=some (.int .u64 (l.getD i (0,0)).1)/\w.cell? ⟨pb,0+i * 2+1,none⟩=some (.int .i64 (l.getD i (0,0)).2):=by
 have key:∀ (l:List (Int × Int)) (i:Nat),i < l.length->(ecl l)[i * 2]?=some (.int .u64 (l.getD i (0,0)).1)/\(ecl l)[i * 2+1]?=some (.int .i64 (l.getD i (0,0)).2):=by
  intro l
  induction l with
  | nil=>intro i h;simp at h
  | cons p l ih =>
   intro i h
   match i with
   | 0=>exact⟨rfl,rfl⟩
   | i + 1 =>
    have:=ih i (by simpa using h)
    have e:ecl (p :: l)=.int .u64 p.1 :: .int .i64 p.2 :: ecl l:=rfl;rw[e,show (i+1) * 2=i * 2+1+1 by omega];simpa using this
 rcases h.ex with⟨e,rfl⟩ | ⟨b,c',e,_,hR⟩
 ·cases e;exact⟨rfl,0,fun h=>by omega,fun i h=>by omega⟩
 ·cases e;refine⟨rfl,b,fun _=>rfl,fun i hi=>?_⟩;rw[Nat.zero_add];exact⟨hR.cell (key l i hi).1,hR.cell (key l i hi).2⟩
theorem j3(l:List (Int × Int))(X:Blk w g cs 61)(e:cs=ecl l)(b:B<=g)(a:l.length<=1000000):EA w B (sg l.length g) l:=by
 subst e;exact⟨.inr ⟨g,l.length,rfl,b,⟨[],by simpa using X,vP l,by simpa using vP l,Nat.le_refl _,Nat.le_trans a (by decide)⟩⟩⟩
theorem ui{j d:Nat}{xs g:Nat->Int}(hn:n<=9000000000000000000)(m:0 < n->a=some ⟨j,0,none⟩)(l:0 < n->a'=some ⟨d,0,none⟩)(hc:∀ i,i < n->w.cell? ⟨j,0 + i * 2,none⟩=some (.int .u64 (xs i))/\w.cell? ⟨j,0 + i * 2 + 1,none⟩=some (.int .i64 (g i)))(k:∀ i,i < n->w.cell? ⟨d,0 + i * 2,none⟩=some (.int .u64 (xs i))/\w.cell? ⟨d,0 + i * 2 + 1,none⟩=some (.int .i64 (g i))):Calls Tryz.prog 28 #[.slice a n c,.slice a' n c'] w fun e w'=>e=.returned (.bool true)/\Below w.heap.size w w':=by
 have f:=Below.refl w.heap.size w;refine aB (n:=26) Tryz.func28 rfl (by kernel_rfl) (by kernel_rfl) ?_
 refine ab (af (t 4 (.bool false) (ae (aa (ab (ab (af (t 6 (.slice a n c) (t 7 (.int .i64 ((n:Nat):Int)) (t 8 (.slice a' n c') (t 9 (.int .i64 ((n:Nat):Int)) (tq 10 (.bool (((n:Nat):Int) != ((n:Nat):Int))) (.bool false) (congrArg Value.bool (bne_self_eq_false _)) (ae (aa (aV (aJ (aa (ab (ab (af (t 5 (.int .i64 0) (ae (aa (bp (gZ (fun s=>n - s) (fun(s:Nat)=>[(0,.slice a n c),(1,.slice a' n c'),(5,.int .i64 (s:Int))]) (fun s w'=>s<=n/\Below w.heap.size w w') (0:Nat) ⟨Nat.zero_le _,f⟩ (by kernel_rfl) ?_)))))))))))))))))))))))));clear f;rintro i v1 ⟨hi,f⟩;refine ab (ab (af (t 11 (.int .i64 (i:Int)) (t 12 (.slice a n c) (t 13 (.int .i64 ((n:Nat):Int)) ?_)))));by_cases ci:(i:Int) < ((n:Nat):Int)
 ·have b:i < n:=by omega
  refine tq 14 (.bool (decide ((i:Int) < ((n:Nat):Int)))) (.bool true) (congrArg Value.bool (decide_eq_true ci)) (ae (aa (aO (aJ (aa (ab (bp (ab ?_))))))));replace f:=f.drew;refine bH (fun w'=>Below w.heap.size w w') (fun _=>false) f ?_
  exact z 0 17 (.slice a n c) (z 1 18 (.int .i64 (i:Int)) (zr 2 19 (pq j (0+i * 2)) (fun _ h=>ic 2 j 0 n c i b m) (zr 3 20 (.agg #[.int .u64 (xs i),.int .i64 (g i)]) (fun _ h=>vy (gy h (hc i b).1) (gy h (hc i b).2)) (z 4 21 (.slice a' n c') (z 5 22 (.int .i64 (i:Int)) (zr 6 23 (pq d (0+i * 2)) (fun _ h=>ic 2 d 0 n c' i b l) (zr 7 24 (.agg #[.int .u64 (xs i),.int .i64 (g i)]) (fun _ h=>vy (gy h (k i b).1) (gy h (k i b).2)) (zr 8 25 (.bool false) (fun _ _=>CT (x:=xs i) (y:=g i) (x':=xs i) (y':=g i) rfl rfl) (bC (aa (aC [(0,.slice a n c),(1,.slice a' n c'),(5,.int .i64 (i:Int)),(11,.int .i64 (i:Int)),(12,.slice a n c),(13,.int .i64 ((n:Nat):Int)),(14,.bool true),(17,.slice a n c),(18,.int .i64 (i:Int)),(19,pq j (0+i * 2)),(20,.agg #[.int .u64 (xs i),.int .i64 (g i)]),(21,.slice a' n c'),(22,.int .i64 (i:Int)),(23,pq d (0+i * 2)),(24,.agg #[.int .u64 (xs i),.int .i64 (g i)]),(25,.bool false)] (by kernel_rfl) (aV (aJ (dm (aa (af (t 15 (.int .i64 (i:Int)) (tq 16 (.int .i64 (IntKind.i64.wrap ((i:Int)+1))) (.int .i64 ((i:Int)+1)) (wi (by omega)) (t 5 (.int .i64 ((i:Int)+1)) (ae (dK (i+1) (by show n - (i+1) < n - i;omega) ⟨b,f⟩ (by kernel_rfl))))))))))))))))))))))
 ·refine tq 14 (.bool (decide ((i:Int) < ((n:Nat):Int)))) (.bool false) (congrArg Value.bool (decide_eq_false ci)) (ae (aa (aV (dM (dC (dC (gp (aa (ab (af (t 4 (.bool true) (ae (aa (aF (aE (.bool true) (rs1 4 (by kernel_rfl) (by kernel_rfl)) ?_)))))))))))))));exact⟨rfl,f⟩
theorem dx{B':Nat}{l:List (Int × Int)}(h:EA w B u l)(f:EA w B' v l)(g:l.length<=9000000000000000000):Calls Tryz.prog 28 #[u,v] w fun e w'=>e=.returned (.bool true)/\Below w.heap.size w w':=by
 obtain⟨a,c,rfl⟩:=h.shape;obtain⟨n,m,rfl⟩:=f.shape;obtain⟨_,o,k,i⟩:=h.cells;obtain⟨_,j,d,b⟩:=f.cells;exact ui g k d i b
theorem nSameQ(h:gB w a n c x)(d:gB w a' n' c' x)(hn:n<=1000000)(b:n'<=1000000):Calls Tryz.prog 118 #[.slice a n c,.slice a' n' c'] w fun e w'=>e=.returned (.bool true)/\Below w.heap.size w w':=by
 have t:=nSame h d (by omega) (by omega);rw[decide_eq_true (show x=x from rfl)] at t;exact t
theorem yY(h:gB w a n c x)(d:gB w a' n' c' x)(hn:n<=1000000)(i:n'<=1000000):Calls Tryz.prog 68 #[.agg #[.slice a n c],.agg #[.slice a' n' c']] w fun e w'=>e=.returned (.bool true)/\Below w.heap.size w w':=by
 have f:=Below.refl w.heap.size w;refine aB (n:=10) Tryz.func68 rfl (by kernel_rfl) (by kernel_rfl) ?_
 refine ab (af (ta 2 [.slice a n c] 46 (pg) ?_));intro v1 k b l B;replace f:=aj f B;replace h:=h.keep B;replace d:=d.keep B;clear B;refine ta 3 [.slice a' n' c'] 46 (pg) ?_
 intro o m g j B;replace f:=aj f B;replace h:=h.keep B;replace d:=d.keep B;replace b:=b.keep B;clear B;refine t 4 (.bool false) (ae (aa (ab (af (t 5 (pg k) (tl 6 (.slice a n c) b 0 (t 7 (pg m) (tl 8 (.slice a' n' c') g 0 (tc 9 118 #[.slice a n c,.slice a' n' c'] (nSameQ h d hn i) ?_)))))))));rintro _ p ⟨rfl,B⟩;refine⟨_,rfl,?_⟩;replace f:=aj f B;replace h:=h.keep B;replace d:=d.keep B;replace b:=b.keep B;replace g:=g.keep B;clear B;refine t 4 (.bool true) (ae (aa (aF (aE (.bool true) (rs1 4 (by kernel_rfl) (by kernel_rfl)) ?_))));exact⟨rfl,f⟩
theorem oC{x0 x1 x2 x3 x4 x5:Int}(h:gB w a n c x)(f:gB w a' n' c' x)(hn:n<=1000000)(k:n'<=1000000):Calls Tryz.prog 27 #[.agg #[.int .u64 x0,.int .u64 x1,.int .u64 x2,.int .u64 x3,.int .u64 x4,.int .u64 x5,.slice a n c],.agg #[.int .u64 x0,.int .u64 x1,.int .u64 x2,.int .u64 x3,.int .u64 x4,.int .u64 x5,.slice a' n' c']] w fun e w'=>e=.returned (.bool true)/\Below w.heap.size w w':=by
 have i:=Below.refl w.heap.size w;refine aB (n:=52) Tryz.func27 rfl (by kernel_rfl) (by kernel_rfl) ?_
 refine ab (af (ta 2 [.int .u64 x0,.int .u64 x1,.int .u64 x2,.int .u64 x3,.int .u64 x4,.int .u64 x5,.slice a n c] 48 (pg) ?_));intro v1 j b m B;replace i:=aj i B;replace h:=h.keep B;replace f:=f.keep B;clear B;refine ta 3 [.int .u64 x0,.int .u64 x1,.int .u64 x2,.int .u64 x3,.int .u64 x4,.int .u64 x5,.slice a' n' c'] 48 (pg) ?_
 intro o g d l B;replace i:=aj i B;replace h:=h.keep B;replace f:=f.keep B;replace b:=b.keep B;clear B;refine t 4 (.bool false) (ae (aa (ab (af (t 5 (pg j) (tl 6 (.int .u64 x0) b 0 (t 7 (pg g) (tl 8 (.int .u64 x0) d 0 (tq 9 (.bool ((x0:Int) == x0)) (.bool true) (congrArg Value.bool (beq_self_eq_true _)) (t 10 (.bool true) (t 11 (pq j 1) (tl 12 (.int .u64 x1) b 1 (t 13 (pq g 1) (tl 14 (.int .u64 x1) d 1 (tq 15 (.bool ((x1:Int) == x1)) (.bool true) (congrArg Value.bool (beq_self_eq_true _)) (t 16 (.bool true) (t 17 (.bool true) (t 18 (pq j 2) (tl 19 (.int .u64 x2) b 2 (t 20 (pq g 2) (tl 21 (.int .u64 x2) d 2 (tq 22 (.bool ((x2:Int) == x2)) (.bool true) (congrArg Value.bool (beq_self_eq_true _)) (t 23 (.bool true) (t 24 (.bool true) (t 25 (pq j 3) (tl 26 (.int .u64 x3) b 3 (t 27 (pq g 3) (tl 28 (.int .u64 x3) d 3 (tq 29 (.bool ((x3:Int) == x3)) (.bool true) (congrArg Value.bool (beq_self_eq_true _)) (t 30 (.bool true) (t 31 (.bool true) (t 32 (pq j 4) (tl 33 (.int .u64 x4) b 4 (t 34 (pq g 4) (tl 35 (.int .u64 x4) d 4 (tq 36 (.bool ((x4:Int) == x4)) (.bool true) (congrArg Value.bool (beq_self_eq_true _)) (t 37 (.bool true) (t 38 (.bool true) (t 39 (pq j 5) (tl 40 (.int .u64 x5) b 5 ?_))))))))))))))))))))))))))))))))))))))));refine t 41 (pq g 5) (tl 42 (.int .u64 x5) d 5 (tq 43 (.bool ((x5:Int) == x5)) (.bool true) (congrArg Value.bool (beq_self_eq_true _)) (t 44 (.bool true) (t 45 (.bool true) (t 46 (pq j 6) (tlr 47 [.slice a n c] b 6 (t 48 (pq g 6) (tlr 49 [.slice a' n' c'] d 6 (tc 50 68 #[.agg #[.slice a n c],.agg #[.slice a' n' c']] (yY h f hn k) ?_)))))))));rintro _ p ⟨rfl,B⟩;refine⟨_,rfl,?_⟩;replace i:=aj i B;replace h:=h.keep B;replace f:=f.keep B;replace b:=b.keep B;replace d:=d.keep B;clear B;refine t 51 (.bool true) (t 4 (.bool true) (ae (aa (aC [(4,.bool true)] (by kernel_rfl) (aF (aE (.bool true) (rs1 4 (by kernel_rfl) (by kernel_rfl)) ?_))))));exact⟨rfl,i⟩
end
end Qu
end Go.Proofs.YtidnifmehnjipaaGreat
