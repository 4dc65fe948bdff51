/- Several texts, joined: QuV, QuW, QuX, QuY. -/
import Derived.Test.YtliajmpchofiiaaGreatJau
import Derived.Test.YtliajmpchofiiaaGreatJap
import Derived.Test.YtliajmpchofiiaaGreatJar
import Derived.Test.YtliajmpchofiiaaGreatJan
set_option maxRecDepth 100000
set_option maxHeartbeats 8000000
namespace Go.Proofs.YtliajmpchofiiaaGreat
section
namespace Qu
open Go.RowKit Go.Lib Pg Lim Gl Kv Bk Pw
section
variable {ρ:Operand->Value}{w:World}{o:Oper}{x y x' y' ei ek:Int}{g B n c c' pb n':Nat}{a a':Option Addr}{u v:Value}{cs:List Value}
attribute [local go_sem] Oper.semAt_some
set_option linter.unusedVariables false
set_option linter.unusedSimpArgs false
theorem er(ho:∃ u v,o.op=.build 64 #[(0,u),(1,v)]/\ρ u=.int .u64 x/\ρ v=.int .i64 y:=by exact⟨_,_,rfl,by kernel_rfl,by kernel_rfl⟩):(execOp ρ o).run Tryz.prog w=.ok (.value (.agg #[.int .u64 x,.int .i64 y])) w:=by
 obtain⟨u,v,h,h1,h2⟩:=ho;simp only[execOp,h,h1,h2];go_simp
theorem zL(h1:x=x')(h2:y=y')(ho:∃ u v,o.op=.binOp .neq 64 u v 64/\ρ u=.agg #[.int .u64 x,.int .i64 y]/\ρ v=.agg #[.int .u64 x',.int .i64 y']:=by exact⟨_,_,rfl,by kernel_rfl,by kernel_rfl⟩):(execOp ρ o).run Tryz.prog w=.ok (.value (.bool false)) w:=by
 obtain⟨u,v,h,e1,e2⟩:=ho;subst h1 h2;simp only[execOp,h,e1,e2];go_simp
theorem rZ{b:Bool}(hb:decide (x=x'/\y=y')=b)(ho:∃ u v,o.op=.binOp .eql 64 u v 64/\ρ u=.agg #[.int .u64 x,.int .i64 y]/\ρ v=.agg #[.int .u64 x',.int .i64 y']:=by exact⟨_,_,rfl,by kernel_rfl,by kernel_rfl⟩):(execOp ρ o).run Tryz.prog w=.ok (.value (.bool b)) w:=by
 obtain⟨u,v,h,e1,e2⟩:=ho;subst hb;simp only[execOp,h,e1,e2];by_cases h1:x=x'<;>by_cases h2:y=y'<;>(go_simp; try simp[h1,h2])
theorem ld_en{o:Nat}{a b:Value}(c0:w.cell? ⟨g,o,none⟩=some a)(c1:w.cell? ⟨g,o + 1,none⟩=some b):(loadVar 64 ⟨g,o,none⟩).run Tryz.prog w=.ok (.agg #[a,b]) w:=by go_simp
theorem gp{b off:Nat}{x y:Value}(c0:w.cell? ⟨b,off,none⟩=some x)(c1:w.cell? ⟨b,off + 1,none⟩=some y)(ho:∃ p,o.op=.load 64 p/\ρ p=.pointer (some ⟨b,off,none⟩):=by exact⟨_,rfl,by kernel_rfl⟩):(execOp ρ o).run Tryz.prog w=.ok (.value (.agg #[x,y])) w:=by
 obtain⟨p,h,hp⟩:=ho;have:=ld_en c0 c1;simp only[execOp,h,hp];simp[Instr.loadAt,Instr.sureAddr,Result.andThen,this]
theorem yJ{w':World}{r:Value}(hr:(Builtin.append_ #[70,70] 70 #[u,v]).run Tryz.prog w=.ok r w')(ho:∃ x y,o.op=.call { callee:=.builtin .append,args:=#[x,y],argTypes:=#[70,70] }/\o.type=70/\ρ x=u/\ρ y=v:=by exact⟨_,_,rfl,rfl,by kernel_rfl,by kernel_rfl⟩):(execOp ρ o).run Tryz.prog w=.ok (.value r) w':=by
 obtain⟨x,y,h,ht,h1,h2⟩:=ho;unfold execOp;simp only[h,ht,resolve,invoke,builtin,Sem.run_bind,Sem.run_pure,Result.andThen_ok,List.map_toArray,List.map_cons,List.map_nil,h1,h2,hr]
theorem EA.cells{l:List (Int × Int)}(h:EA w B (.slice a n c) l):n=l.length/\∃ pb,(0 < n->a=some ⟨pb,0,none⟩)/\∀ i,i < n->w.cell? ⟨pb,0 + i * 2,none⟩=some (.int .u64 (l.getD i (0,0)).1)/\w.cell? ⟨pb,0 + i * 2 + 1,none⟩=some (.int .i64 (l.getD i (0,0)).2):=by
 have key:∀ (l:List (Int × Int)) (i:Nat),i < l.length->(ecl l)[i * 2]? = some (.int .u64 (l.getD i (0,0)).1)/\(ecl l)[i * 2 + 1]? = some (.int .i64 (l.getD i (0,0)).2):=by
  intro l
  induction l with
  | nil=>intro i h; simp at h
  | cons p l ih =>
   intro i h
   match i with
   | 0=>exact⟨rfl,rfl⟩
   | i + 1 =>
    have:=ih i (by simpa using h)
    have e:ecl (p :: l)=.int .u64 p.1 :: .int .i64 p.2 :: ecl l:=rfl;rw[e,show (i + 1) * 2=i * 2 + 1 + 1 by omega];simpa using this
 rcases h.ex with⟨e,rfl⟩ | ⟨b,c',e,_,hR⟩
 ·cases e;exact⟨rfl,0,fun h=>by omega,fun i h=>by omega⟩
 ·cases e;refine⟨rfl,b,fun _=>rfl,fun i hi => ?_⟩;rw[Nat.zero_add];exact⟨hR.cell (key l i hi).1,hR.cell (key l i hi).2⟩
theorem dz(l:List (Int × Int))(X:Blk w g cs 64)(e:cs=ecl l)(hB:B<=g)(hl:l.length<=1000000):EA w B (sg l.length g) l:=by
 subst e;exact⟨.inr ⟨g,l.length,rfl,hB,⟨[],by simpa using X,sV l,by simpa using sV l,Nat.le_refl _,Nat.le_trans hl (by decide)⟩⟩⟩
theorem qF{pb':Nat}{xs ks:Nat->Int}(hn:n<=9000000000000000000)(ha:0 < n->a=some ⟨pb,0,none⟩)(ha':0 < n->a'=some ⟨pb',0,none⟩)(hc:∀ i,i < n->w.cell? ⟨pb,0 + i * 2,none⟩=some (.int .u64 (xs i))/\w.cell? ⟨pb,0 + i * 2 + 1,none⟩=some (.int .i64 (ks i)))(hc':∀ i,i < n->w.cell? ⟨pb',0 + i * 2,none⟩=some (.int .u64 (xs i))/\w.cell? ⟨pb',0 + i * 2 + 1,none⟩=some (.int .i64 (ks i))):Calls Tryz.prog 47 #[.slice a n c,.slice a' n c'] w fun e w'=>e=.returned (.bool true)/\Below w.heap.size w w':=by
 have BB:=Below.refl w.heap.size w;refine aG (n:=26) Tryz.func47 rfl (by kernel_rfl) (by kernel_rfl) ?_
 refine af (ah (t 4 (.bool false) ?_));refine ag (ab (af (af (ah (t 6 (.slice a n c) ?_)))));refine t 7 (.int .i64 ((n:Nat):Int)) ?_
 refine t 8 (.slice a' n c') ?_
 refine t 9 (.int .i64 ((n:Nat):Int)) ?_
 refine tq 10 (.bool (((n:Nat):Int) != ((n:Nat):Int))) (.bool false) (congrArg Value.bool (bne_self_eq_false _)) ?_
 refine ag (ab (bM ?_));refine aK (ab (af (af (ah (t 5 (.int .i64 0) ?_)))));refine ag (ab (aS (fJ (fun s=>n - s) (fun(s:Nat)=>[(0,.slice a n c),(1,.slice a' n c'),(5,.int .i64 (s:Int))]) (fun s w'=>s<=n/\Below w.heap.size w w') (0:Nat) ⟨Nat.zero_le _,BB⟩ (by kernel_rfl) ?_)));clear BB;rintro i v1 ⟨hi,BB⟩;refine af (af (ah (t 11 (.int .i64 (i:Int)) ?_)));refine t 12 (.slice a n c) ?_
 refine t 13 (.int .i64 ((n:Nat):Int)) ?_
 by_cases ci:(i:Int) < ((n:Nat):Int)
 ·have hk_i:i < n:=by omega
  refine tq 14 (.bool (decide ((i:Int) < ((n:Nat):Int)))) (.bool true) (congrArg Value.bool (decide_eq_true ci)) ?_
  refine ag (ab (bu ?_));refine aK (ab (af (aS (af ?_))));replace BB:=BB.drew;refine bW (fun w'=>Below w.heap.size w w') (fun _=>false) BB ?_
  refine z 0 17 (.slice a n c) ?_
  refine z 1 18 (.int .i64 (i:Int)) ?_
  refine zr 2 19 (pq pb (0 + i * 2)) (fun _ h=>dE 2 pb 0 n c i hk_i ha) ?_
  refine zr 3 20 (.agg #[.int .u64 (xs i),.int .i64 (ks i)]) (fun _ h=>gp (cS h (hc i hk_i).1) (cS h (hc i hk_i).2)) ?_
  refine z 4 21 (.slice a' n c') ?_
  refine z 5 22 (.int .i64 (i:Int)) ?_
  refine zr 6 23 (pq pb' (0 + i * 2)) (fun _ h=>dE 2 pb' 0 n c' i hk_i ha') ?_
  refine zr 7 24 (.agg #[.int .u64 (xs i),.int .i64 (ks i)]) (fun _ h=>gp (cS h (hc' i hk_i).1) (cS h (hc' i hk_i).2)) ?_
  refine zr 8 25 (.bool false) (fun _ _=>zL (x:=xs i) (y:=ks i) (x':=xs i) (y':=ks i) rfl rfl) ?_
  refine bg (ab (aE [(0,.slice a n c),(1,.slice a' n c'),(5,.int .i64 (i:Int)),(11,.int .i64 (i:Int)),(12,.slice a n c),(13,.int .i64 ((n:Nat):Int)),(14,.bool true),(17,.slice a n c),(18,.int .i64 (i:Int)),(19,pq pb (0 + i * 2)),(20,.agg #[.int .u64 (xs i),.int .i64 (ks i)]),(21,.slice a' n c'),(22,.int .i64 (i:Int)),(23,pq pb' (0 + i * 2)),(24,.agg #[.int .u64 (xs i),.int .i64 (ks i)]),(25,.bool false)] (by kernel_rfl) ?_));refine bM ?_
  refine aK (dw (ab (ah (t 15 (.int .i64 (i:Int)) ?_))));refine tq 16 (.int .i64 (IntKind.i64.wrap ((i:Int) + 1))) (.int .i64 ((i:Int) + 1)) (wi (by omega)) ?_
  refine t 5 (.int .i64 ((i:Int) + 1)) ?_
  refine ag ?_
  exact cU (i + 1) (by show n - (i + 1) < n - i; omega) ⟨hk_i,BB⟩ (by kernel_rfl)
 ·refine tq 14 (.bool (decide ((i:Int) < ((n:Nat):Int)))) (.bool false) (congrArg Value.bool (decide_eq_false ci)) ?_
  refine ag (ab (bM ?_));refine cX (cL (cL (fi (ab (af (ah (t 4 (.bool true) ?_)))))));refine ag (ab (aI (aH (.bool true) (rs1 4 (by kernel_rfl) (by kernel_rfl)) ?_)));exact⟨rfl,BB⟩
theorem bP{B':Nat}{l:List (Int × Int)}(h:EA w B u l)(h':EA w B' v l)(hl:l.length<=9000000000000000000):Calls Tryz.prog 47 #[u,v] w fun e w'=>e=.returned (.bool true)/\Below w.heap.size w w':=by
 obtain⟨a,c,rfl⟩:=h.shape;obtain⟨a',c',rfl⟩:=h'.shape;obtain⟨_,pb,h1,h2⟩:=h.cells;obtain⟨_,pb',h1',h2'⟩:=h'.cells;exact qF hl h1 h1' h2 h2'
theorem qc{l:List (Int × Int)}{i:Nat}{a b:Int}(hi:i < l.length):(l.take (i + 1)).count (a,b)=(l.take i).count (a,b) + if (l.getD i (0,0)).1=a/\(l.getD i (0,0)).2=b then 1 else 0:=by
 rw[List.take_add_one,List.getElem?_eq_getElem hi,List.count_append]
 have e:l.getD i (0,0)=l[i]:=by simp[List.getD,hi]
 rw[e];by_cases h:l[i].1=a/\l[i].2=b
 ·rw[if_pos h];have:l[i]=(a,b):=by rw[<- h.1,<- h.2]
  rw[this];simp
 ·rw[if_neg h];have:l[i]≠(a,b):=fun q=>h (by rw[q]; exact⟨rfl,rfl⟩)
  simp[this]
theorem in_at{l:List (Int × Int)}(hn:n<=9000000000000000000)(hnl:n=l.length)(ha:0 < n->a=some ⟨pb,0,none⟩)(hc:∀ i,i < n->w.cell? ⟨pb,0 + i * 2,none⟩=some (.int .u64 (l.getD i (0,0)).1)/\w.cell? ⟨pb,0 + i * 2 + 1,none⟩=some (.int .i64 (l.getD i (0,0)).2)):Calls Tryz.prog 31 #[.slice a n c,.agg #[.int .u64 ei,.int .i64 ek]] w fun e w'=>e=.returned (.bool (decide (l.count (ei,ek)=1)))/\Below w.heap.size w w':=by
 have BB:=Below.refl w.heap.size w;refine aG (n:=23) Tryz.func31 rfl (by kernel_rfl) (by kernel_rfl) ?_
 refine af (ah (ta 3 [.int .u64 ei,.int .i64 ek] 64 (pg) ?_));intro v1 g2 Xg2 hg2 B;replace BB:=ai BB B;clear B;refine t 4 (.bool false) ?_
 refine ag (ab (af (ah (t 5 (.int .i64 0) ?_))));refine ag (ab (af (af (ah (t 6 (.int .i64 0) ?_)))));refine ag (ab (aS (fJ (fun s=>n - s.1) (fun(s:Nat × Nat)=>[(0,.slice a n c),(3,pg g2),(5,.int .i64 (s.2:Int)),(6,.int .i64 (s.1:Int))]) (fun s w'=>s.1<=n/\s.2<=s.1/\s.2=(l.take s.1).count (ei,ek)/\Below w.heap.size w w'/\Blk w' g2 [.int .u64 ei,.int .i64 ek] 64) ((0,0):Nat × Nat) ⟨Nat.zero_le _,Nat.le_refl _,by simp,BB,Xg2⟩ (by kernel_rfl) ?_)));clear BB;clear Xg2;rintro⟨i,m⟩ v3 ⟨hi,hm,hq,BB,X0⟩;dsimp only at hi hm hq;refine af (af (ah (t 7 (.int .i64 (i:Int)) ?_)));refine t 8 (.slice a n c) ?_
 refine t 9 (.int .i64 ((n:Nat):Int)) ?_
 by_cases ci:(i:Int) < ((n:Nat):Int)
 ·have hk_i:i < n:=by omega
  refine tq 10 (.bool (decide ((i:Int) < ((n:Nat):Int)))) (.bool true) (congrArg Value.bool (decide_eq_true ci)) ?_
  refine ag (ab (bu ?_));refine aK (ab (af (aS (af ?_))));replace BB:=BB.drew;replace X0:=X0.drew;refine bW (fun w'=>Blk w' g2 [.int .u64 ei,.int .i64 ek] 64/\Below w.heap.size w w') (fun _=>false) ⟨X0,BB⟩ ?_
  refine z 0 13 (.slice a n c) ?_
  refine z 1 14 (.int .i64 (i:Int)) ?_
  refine zr 2 15 (pq pb (0 + i * 2)) (fun _ h=>dE 2 pb 0 n c i hk_i ha) ?_
  refine zr 3 16 (.agg #[.int .u64 (l.getD i (0,0)).1,.int .i64 (l.getD i (0,0)).2]) (fun _ h=>gp (cS h.2 (hc i hk_i).1) (cS h.2 (hc i hk_i).2)) ?_
  refine zlr 4 17 [.int .u64 ei,.int .i64 ek] (fun _ h=>h.1) 0 ?_
  by_cases c4:(l.getD i (0,0)).1=ei/\(l.getD i (0,0)).2=ek
  ·refine zr 5 18 (.bool true) (fun _ _=>rZ (x:=(l.getD i (0,0)).1) (y:=(l.getD i (0,0)).2) (x':=ei) (y':=ek) (decide_eq_true c4)) ?_
   refine bg (ab (bu ?_));refine ah (t 19 (.int .i64 (m:Int)) ?_);refine tq 20 (.int .i64 (IntKind.i64.wrap ((m:Int) + 1))) (.int .i64 ((m:Int) + 1)) (wi (by omega)) ?_
   refine t 5 (.int .i64 ((m:Int) + 1)) ?_
   refine ag (dw (ab (aE [(0,.slice a n c),(3,pg g2),(5,.int .i64 ((m:Int) + 1)),(6,.int .i64 (i:Int)),(7,.int .i64 (i:Int)),(8,.slice a n c),(9,.int .i64 ((n:Nat):Int)),(10,.bool true),(13,.slice a n c),(14,.int .i64 (i:Int)),(15,pq pb (0 + i * 2)),(16,.agg #[.int .u64 (l.getD i (0,0)).1,.int .i64 (l.getD i (0,0)).2]),(17,.agg #[.int .u64 ei,.int .i64 ek]),(18,.bool true),(19,.int .i64 (m:Int)),(20,.int .i64 ((m:Int) + 1))] (by kernel_rfl) ?_)));refine ah (t 11 (.int .i64 (i:Int)) ?_);refine tq 12 (.int .i64 (IntKind.i64.wrap ((i:Int) + 1))) (.int .i64 ((i:Int) + 1)) (wi (by omega)) ?_
   refine t 6 (.int .i64 ((i:Int) + 1)) ?_
   refine ag ?_
   exact cU ((i + 1,m + 1):Nat × Nat) (by show n - (i + 1) < n - i; omega) ⟨hk_i,by show m + 1<=i + 1; omega,by show m + 1=(l.take (i + 1)).count (ei,ek); rw[qc (by omega),if_pos c4,hq],BB,X0⟩ (by kernel_rfl)
  ·refine zr 5 18 (.bool false) (fun _ _=>rZ (x:=(l.getD i (0,0)).1) (y:=(l.getD i (0,0)).2) (x':=ei) (y':=ek) (decide_eq_false c4)) ?_
   refine bg (ab (bM ?_));refine aK (dw (ab (ah (t 11 (.int .i64 (i:Int)) ?_))));refine tq 12 (.int .i64 (IntKind.i64.wrap ((i:Int) + 1))) (.int .i64 ((i:Int) + 1)) (wi (by omega)) ?_
   refine t 6 (.int .i64 ((i:Int) + 1)) ?_
   refine ag ?_
   exact cU ((i + 1,m):Nat × Nat) (by show n - (i + 1) < n - i; omega) ⟨hk_i,by show m<=i + 1; omega,by show m=(l.take (i + 1)).count (ei,ek); rw[qc (by omega),if_neg c4,hq,Nat.add_zero],BB,X0⟩ (by kernel_rfl)
 ·refine tq 10 (.bool (decide ((i:Int) < ((n:Nat):Int)))) (.bool false) (congrArg Value.bool (decide_eq_false ci)) ?_
  refine ag (ab (bM ?_));refine cX (cL (cL (fi (ab (af (ah (t 21 (.int .i64 (m:Int)) ?_)))))));by_cases c5:(m:Int)=1
  ·refine tq 22 (.bool ((m:Int) == 1)) (.bool true) (congrArg Value.bool (beq_iff_eq.2 c5)) ?_
   refine t 4 (.bool true) ?_
   refine ag (ab (aI (aH (.bool true) (rs1 4 (by kernel_rfl) (by kernel_rfl)) ?_)))
   have hc2:(l.take i).count (ei,ek)=l.count (ei,ek):=by rw[List.take_of_length_le (by omega)]
   rw[show decide (l.count (ei,ek)=1)=true from decide_eq_true (by omega)];exact⟨rfl,BB⟩
  ·refine tq 22 (.bool ((m:Int) == 1)) (.bool false) (congrArg Value.bool (beq_eq_false_iff_ne.2 c5)) ?_
   refine t 4 (.bool false) ?_
   refine ag (ab (aI (aH (.bool false) (rs1 4 (by kernel_rfl) (by kernel_rfl)) ?_)))
   have hc2:(l.take i).count (ei,ek)=l.count (ei,ek):=by rw[List.take_of_length_le (by omega)]
   rw[show decide (l.count (ei,ek)=1)=false from decide_eq_false (by omega)];exact⟨rfl,BB⟩
theorem in_ea{l:List (Int × Int)}(h:EA w B v l)(hl:l.length<=9000000000000000000):Calls Tryz.prog 31 #[v,.agg #[.int .u64 ei,.int .i64 ek]] w fun e w'=>e=.returned (.bool (decide (l.count (ei,ek)=1)))/\Below w.heap.size w w':=by
 obtain⟨a,c,rfl⟩:=h.shape;obtain⟨h0,pb,h1,h2⟩:=h.cells;exact in_at hl h0 h1 h2
theorem nSameQ(h:gb w a n c x)(h':gb w a' n' c' x)(hn:n<=1000000)(hn':n'<=1000000):Calls Tryz.prog 148 #[.slice a n c,.slice a' n' c'] w fun e w'=>e=.returned (.bool true)/\Below w.heap.size w w':=by
 have t:=nSame h h' (by omega) (by omega);rw[decide_eq_true (show x=x from rfl)] at t;exact t
theorem xK(h:gb w a n c x)(h':gb w a' n' c' x)(hn:n<=1000000)(hn':n'<=1000000):Calls Tryz.prog 93 #[.agg #[.slice a n c],.agg #[.slice a' n' c']] w fun e w'=>e=.returned (.bool true)/\Below w.heap.size w w':=by
 have BB:=Below.refl w.heap.size w;refine aG (n:=10) Tryz.func93 rfl (by kernel_rfl) (by kernel_rfl) ?_
 refine af (ah (ta 2 [.slice a n c] 49 (pg) ?_));intro v1 g2 Xg2 hg2 B;replace BB:=ai BB B;replace h:=h.keep B;replace h':=h'.keep B;clear B;refine ta 3 [.slice a' n' c'] 49 (pg) ?_
 intro v3 g4 Xg4 hg4 B;replace BB:=ai BB B;replace h:=h.keep B;replace h':=h'.keep B;replace Xg2:=Xg2.keep B;clear B;refine t 4 (.bool false) ?_
 refine ag (ab (af (ah (t 5 (pg g2) ?_))));refine tl 6 (.slice a n c) Xg2 0 ?_
 refine t 7 (pg g4) ?_
 refine tl 8 (.slice a' n' c') Xg4 0 ?_
 refine tc 9 148 #[.slice a n c,.slice a' n' c'] (nSameQ h h' hn hn') ?_
 rintro _ v5 ⟨rfl,B⟩;refine⟨_,rfl,?_⟩;replace BB:=ai BB B;replace h:=h.keep B;replace h':=h'.keep B;replace Xg2:=Xg2.keep B;replace Xg4:=Xg4.keep B;clear B;refine t 4 (.bool true) ?_
 refine ag (ab (aI (aH (.bool true) (rs1 4 (by kernel_rfl) (by kernel_rfl)) ?_)));exact⟨rfl,BB⟩
theorem mF{x0 x1 x2 x3 x4 x5:Int}(h:gb w a n c x)(h':gb w a' n' c' x)(hn:n<=1000000)(hn':n'<=1000000):Calls Tryz.prog 39 #[.agg #[.int .u64 x0,.int .u64 x1,.int .u64 x2,.int .u64 x3,.int .u64 x4,.int .u64 x5,.slice a n c],.agg #[.int .u64 x0,.int .u64 x1,.int .u64 x2,.int .u64 x3,.int .u64 x4,.int .u64 x5,.slice a' n' c']] w fun e w'=>e=.returned (.bool true)/\Below w.heap.size w w':=by
 have BB:=Below.refl w.heap.size w;refine aG (n:=52) Tryz.func39 rfl (by kernel_rfl) (by kernel_rfl) ?_
 refine af (ah (ta 2 [.int .u64 x0,.int .u64 x1,.int .u64 x2,.int .u64 x3,.int .u64 x4,.int .u64 x5,.slice a n c] 51 (pg) ?_));intro v1 g2 Xg2 hg2 B;replace BB:=ai BB B;replace h:=h.keep B;replace h':=h'.keep B;clear B;refine ta 3 [.int .u64 x0,.int .u64 x1,.int .u64 x2,.int .u64 x3,.int .u64 x4,.int .u64 x5,.slice a' n' c'] 51 (pg) ?_
 intro v3 g4 Xg4 hg4 B;replace BB:=ai BB B;replace h:=h.keep B;replace h':=h'.keep B;replace Xg2:=Xg2.keep B;clear B;refine t 4 (.bool false) ?_
 refine ag (ab (af (ah (t 5 (pg g2) ?_))));refine tl 6 (.int .u64 x0) Xg2 0 ?_
 refine t 7 (pg g4) ?_
 refine tl 8 (.int .u64 x0) Xg4 0 ?_
 refine tq 9 (.bool ((x0:Int) == x0)) (.bool true) (congrArg Value.bool (beq_self_eq_true _)) ?_
 refine t 10 (.bool true) ?_
 refine t 11 (pq g2 1) ?_
 refine tl 12 (.int .u64 x1) Xg2 1 ?_
 refine t 13 (pq g4 1) ?_
 refine tl 14 (.int .u64 x1) Xg4 1 ?_
 refine tq 15 (.bool ((x1:Int) == x1)) (.bool true) (congrArg Value.bool (beq_self_eq_true _)) ?_
 refine t 16 (.bool true) ?_
 refine t 17 (.bool true) ?_
 refine t 18 (pq g2 2) ?_
 refine tl 19 (.int .u64 x2) Xg2 2 ?_
 refine t 20 (pq g4 2) ?_
 refine tl 21 (.int .u64 x2) Xg4 2 ?_
 refine tq 22 (.bool ((x2:Int) == x2)) (.bool true) (congrArg Value.bool (beq_self_eq_true _)) ?_
 refine t 23 (.bool true) ?_
 refine t 24 (.bool true) ?_
 refine t 25 (pq g2 3) ?_
 refine tl 26 (.int .u64 x3) Xg2 3 ?_
 refine t 27 (pq g4 3) ?_
 refine tl 28 (.int .u64 x3) Xg4 3 ?_
 refine tq 29 (.bool ((x3:Int) == x3)) (.bool true) (congrArg Value.bool (beq_self_eq_true _)) ?_
 refine t 30 (.bool true) ?_
 refine t 31 (.bool true) ?_
 refine t 32 (pq g2 4) ?_
 refine tl 33 (.int .u64 x4) Xg2 4 ?_
 refine t 34 (pq g4 4) ?_
 refine tl 35 (.int .u64 x4) Xg4 4 ?_
 refine tq 36 (.bool ((x4:Int) == x4)) (.bool true) (congrArg Value.bool (beq_self_eq_true _)) ?_
 refine t 37 (.bool true) ?_
 refine t 38 (.bool true) ?_
 refine t 39 (pq g2 5) ?_
 refine tl 40 (.int .u64 x5) Xg2 5 ?_
 refine t 41 (pq g4 5) ?_
 refine tl 42 (.int .u64 x5) Xg4 5 ?_
 refine tq 43 (.bool ((x5:Int) == x5)) (.bool true) (congrArg Value.bool (beq_self_eq_true _)) ?_
 refine t 44 (.bool true) ?_
 refine t 45 (.bool true) ?_
 refine t 46 (pq g2 6) ?_
 refine tlr 47 [.slice a n c] Xg2 6 ?_
 refine t 48 (pq g4 6) ?_
 refine tlr 49 [.slice a' n' c'] Xg4 6 ?_
 refine tc 50 93 #[.agg #[.slice a n c],.agg #[.slice a' n' c']] (xK h h' hn hn') ?_
 rintro _ v5 ⟨rfl,B⟩;refine⟨_,rfl,?_⟩;replace BB:=ai BB B;replace h:=h.keep B;replace h':=h'.keep B;replace Xg2:=Xg2.keep B;replace Xg4:=Xg4.keep B;clear B;refine t 51 (.bool true) ?_
 refine t 4 (.bool true) ?_
 refine ag (ab (aE [(4,.bool true)] (by kernel_rfl) ?_));refine aI (aH (.bool true) (rs1 4 (by kernel_rfl) (by kernel_rfl)) ?_);exact⟨rfl,BB⟩
end
end Qu
end
section
namespace Qu
open Go.RowKit Go.Lib Pg Lim Gl Kv Bk Pw
section
variable {B g n N:Nat}{w:World}{K:Nat->Prop}{E:ay}{W:List ay}{v:Int}
attribute [local go_sem] Oper.semAt_some
set_option linter.unusedVariables false
set_option linter.unusedSimpArgs false
structure fD(B:Nat)(w:World)(K:Nat->Prop)(g:Nat)(E:ay)(W:List ay)(n N:Nat)(l:List (Int × Int))(e:Ending)(w':World):Prop where
 ex:∃ v n',e=.returned v/\EA w' w.heap.size v l/\Sx B w' K g E W n' N/\n<=n'/\n'<=n + 1 + N/\l.length<=N/\Chg (· = g) w w'
theorem gl(h:Sx B w K g E W n N)(hv:Uq v)(hK:Kys E)(hN:N<=100000000)(hx:n + N<=2000000000000000000):Calls Tryz.prog 32 #[pg g,.int .u64 v] w (fD B w K g E W n N (upto E (p14 v))):=by
 refine(due_sa h.sa hv (Nat.le_trans (Ky.dS _ _) (by decide)) (hK.k14 hv) hN hx).mono ?_
 rintro e w' ⟨u,j,rfl,hE,rfl,S,C⟩
 have hl:(upto E (p14 v)).length<=N:=by
  refine Nat.le_trans ?_ h.sa.size;unfold upto;rw[List.length_map];exact List.length_filter_le _ _
 exact⟨u,_,rfl,hE,⟨S,Nat.le_trans h.lo C.size,h.kb⟩,by omega,by have:(upto E (Ky.mkb (Ky.frm 14) (Ky.tn 14 v))).length<=N:=hl; omega,hl,C⟩
theorem eY(h:Sx B w K g E W n N)(hv:Uq v)(hK:Kys E)(hN:N<=100000000)(hx:n + N<=2000000000000000000):Calls Tryz.prog 33 #[pg g,.int .u64 v] w (fD B w K g E W n N (under E (p15 v))):=by
 refine(Ah h.sa hv (Nat.le_trans (Ky.dS _ _) (by decide)) (hK.k15 hv) hN hx).mono ?_
 rintro e w' ⟨u,j,rfl,hE,rfl,S,C⟩
 have hl:(under E (p15 v)).length<=N:=by
  refine Nat.le_trans ?_ h.sa.size;unfold under;rw[List.length_map];exact List.length_filter_le _ _
 exact⟨u,_,rfl,hE,⟨S,Nat.le_trans h.lo C.size,h.kb⟩,by omega,by have:(under E (Ky.mkb (Ky.frm 15) (Ky.tn 15 v))).length<=N:=hl; omega,hl,C⟩
end
end Qu
end
section
namespace Qu
open Go.RowKit Go.Lib Pg Lim Gl Kv Bk Pw
section
variable {x x0 x1 x2 x3 x4 x5:Int}{B g n N P b:Nat}{w:World}{K:Nat->Prop}{E E':ay}{W:List ay}{r r':Value}{args:Array Value}{L:List Int}{ρ:Operand->Value}
attribute [local go_sem] Oper.semAt_some
set_option linter.unusedVariables false
set_option linter.unusedSimpArgs false
def bgE(x:Int):ay:=put [] (Ky.mk 2 0 0) (pv 3 x)
def kE0:ay:=bgE 7
def kE1:ay:=cY kE0 12 (uv 20 16 0 5 0 9) 20 16 5
def kE2:ay:=cY kE1 13 (mv 20 16 17 0 4 0 0) 20 16 4
def kE3:ay:=gg kE2 7 4
def kE4:ay:=kJ kE3 8 3
def kE5:ay:=bX kE4 8 13
theorem kf1:aN (chn kE0)=7:=by decide +kernel
theorem kf2:aN (chn kE1)=8:=by decide +kernel
theorem kf3:cR kE2 20 16=2:=by decide +kernel
theorem kf4:(Kv.look kE2 (Ky.mk 12 7 0)).isSome=true:=by decide +kernel
theorem kf5:(Kv.look kE3 (Ky.mk 12 8 0)).isSome=false/\gg kE3 8 4=kE3:=by decide +kernel
theorem kf6:(Kv.look kE3 (Ky.mk 13 8 0)).isSome=true:=by decide +kernel
theorem kf7:(Kv.look kE4 (Ky.mk 13 7 0)).isSome=false/\kJ kE4 7 0=kE4:=by decide +kernel
theorem kf8:((Kv.look kE4 (Ky.mk 12 7 0)).isSome=true/\uX (got kE4 (Ky.mk 12 7 0)) 0=20/\uX (got kE4 (Ky.mk 12 7 0)) 1=16)/\(uX (got kE4 (Ky.mk 12 7 0)) 2=0/\uX (got kE4 (Ky.mk 12 7 0)) 3=5)/\(uX (got kE4 (Ky.mk 12 7 0)) 4=0/\uX (got kE4 (Ky.mk 12 7 0)) 5=4):=by decide +kernel
theorem kf9:((Kv.look kE4 (Ky.mk 13 8 0)).isSome=true/\mX (got kE4 (Ky.mk 13 8 0)) 0=20/\mX (got kE4 (Ky.mk 13 8 0)) 1=16)/\(mX (got kE4 (Ky.mk 13 8 0)) 2=17/\mX (got kE4 (Ky.mk 13 8 0)) 3=0)/\(mX (got kE4 (Ky.mk 13 8 0)) 4=4/\mX (got kE4 (Ky.mk 13 8 0)) 5=0)/\mX (got kE4 (Ky.mk 13 8 0)) 6=3:=by decide +kernel
theorem kf10:upto kE4 (p14 5)=[(8,13),(7,12)]:=by decide +kernel
theorem yL:upto kE4 (p14 4)=[(8,13)]:=by decide +kernel
theorem pC:under kE4 (p15 16)=[(7,12),(8,13)]:=by decide +kernel
theorem gN:dJ kE4 8 12=false/\bX kE4 8 12=kE4:=by decide +kernel
theorem gO:dJ kE4 8 13=true/\cR kE5 20 16=1:=by decide +kernel
theorem Bf(hx:Uq x):Qs (bgE x) x []:=by
 have L:∀ {k a b:Int},Ok k a b->Kv.look (bgE x) (Ky.mk k a b)=if 2=k/\0=a/\0=b then some (pv 3 x) else none:=fun ho=>by
  unfold bgE;rw[lkp List.Pairwise.nil ok2 ho];rfl
 have hch:chn (bgE x)=pv 3 x:=by
  unfold chn got;rw[L ok2,if_pos (by simp)];rfl
 obtain⟨p1,p2⟩:=iI (x:=3) (y:=x) (by decide) hx;refine⟨cC.put List.Pairwise.nil _ _,dZ (fun _ h=>by cases h) ok2,by rw[hch]; exact p2,by rw[hch,p1]; decide,hx.1,List.Pairwise.nil,(fun _ h=>by cases h),(fun _ h=>by cases h),?_,?_,?_,?_⟩
 ·intro k i hk hi _;rw[L (okr hk hi),if_neg (by omega)]
 ·intro d i hd hi v;rw[L (oY hd hi),if_neg (by omega)];exact⟨(fun h=>by cases h),(fun⟨_,h,_⟩=>by cases h)⟩
 ·intro d i hd hi v;rw[L (qf hd hi),if_neg (by omega)];exact⟨(fun h=>by cases h),(fun⟨_,h,_⟩=>by cases h)⟩
 ·intro a b ha hb;rw[L (gM ha hb),if_neg (by omega)];rfl
theorem jc:Kys kE4:=by
 have h0:=Bf (x:=7) (by decide)
 have h1:Qs kE1 (7 + 1) [⟨7,12,20,16,5⟩]:=h0.begin (by decide) (by decide) (e:=⟨7,12,20,16,5⟩) rfl (.inl rfl) (by decide) (by decide) (by decide) (r:=uv 20 16 0 5 0 9) ⟨(fun _=>by decide +kernel),(fun h=>by cases h)⟩
 have h2:Qs kE2 (7 + 1 + 1) [⟨7,12,20,16,5⟩,⟨8,13,20,16,4⟩]:=h1.begin (by decide) (by decide) (e:=⟨8,13,20,16,4⟩) rfl (.inr rfl) (by decide) (by decide) (by decide) (r:=mv 20 16 17 0 4 0 0) ⟨(fun h=>by cases h),(fun _=>by decide +kernel)⟩
 have o1:Oct (got kE2 (Ky.mk 12 7 0)):=by unfold Oct; decide +kernel
 have h3:Qs kE3 (7 + 1 + 1) _:=h2.less (id:=7) (y:=4) (by decide) (by decide) (by decide) o1
 have o2:Oct (got kE3 (Ky.mk 13 8 0)):=by unfold Oct; decide +kernel
 exact(h3.few (id:=8) (y:=3) (by decide) (by decide) (by decide) o2).keys
theorem SxE.cast(h:Calls Tryz.prog P args w (SxE B w K g E W n N r))(hE:E=E')(hr:r=r'):Calls Tryz.prog P args w (SxE B w K g E' W n N r'):=by subst hE hr; exact h
theorem SxF.cast(h:Calls Tryz.prog P args w (SxF B w K g E W n N r))(hE:E=E')(hr:r=r'):Calls Tryz.prog P args w (SxF B w K g E' W n N r'):=by subst hE hr; exact h
theorem fD.cast{l l':List (Int × Int)}(h:Calls Tryz.prog P args w (fD B w K g E W n N l))(hl:l=l'):Calls Tryz.prog P args w (fD B w K g E W n N l'):=by subst hl; exact h
structure FndV(B:Nat)(w:World)(K:Nat->Prop)(g:Nat)(E:ay)(W:List ay)(n N:Nat)(x0 x1 x2 x3 x4 x5 x6:Int)(b:Bool)(e:Ending)(w':World):Prop where
 ex:∃ a6 n6 c6,e=.returned (.tuple #[.agg #[.int .u64 x0,.int .u64 x1,.int .u64 x2,.int .u64 x3,.int .u64 x4,.int .u64 x5,.slice a6 n6 c6],.bool b])/\∃ z6 K',Sx B w' K' g E W n N/\(∀ b,K' b->K b\/w.heap.size<=b)/\Chg K w w'/\Nq w' K' z6 a6 n6 c6 x6/\n6<=510/\(n6=0\/w.heap.size<=z6)
theorem tY.val{x6:Int}{b b':Bool}(h:Calls Tryz.prog P args w (tY B w K g E W n N L b))(h0:mX L 0=x0)(h1:mX L 1=x1)(h2:mX L 2=x2)(h3:mX L 3=x3)(h4:mX L 4=x4)(h5:mX L 5=x5)(h6:mX L 6=x6)(hb:b=b'):Calls Tryz.prog P args w (FndV B w K g E W n N x0 x1 x2 x3 x4 x5 x6 b'):=by
 subst h0 h1 h2 h3 h4 h5 h6 hb;exact h.mono fun e w' h=>⟨h.ex⟩
theorem q9(w:World)(K:Nat->Prop):Nk w K 0 none 0 0 0:=⟨.inl rfl,.inl rfl,fun w' _=>(pP w').a⟩
theorem wI(c:w.cell? ⟨b,0,none⟩=some (.int .u64 3)):gb w (some ⟨b,0,none⟩) 1 1 3:=⟨b,0,[3],rfl,Nat.le_refl _,by refine⟨fun y hy => ?_,by rfl,by decide⟩; simp at hy; subst hy; decide,⟨.inr rfl,fun i hi=>by
  obtain rfl:i=0:=by simp at hi; omega
  exact c⟩⟩
theorem nk_3(X:Blk w b [.int .u64 3] 27)(hK:¬ K b):Nk w K b (some ⟨b,0,none⟩) 1 1 3:=⟨.inr X.lt,.inr hK,fun w' h=>(wI (by rw[World.cell?_of_block (w:=w) (h (by decide))]; exact X.cell (i:=0) rfl)).a⟩
theorem sF{o:Oper}(ho:∃ u v,o.op=.binOp .neq 46 u v 46/\ρ u=.agg #[.int .u64 x0,.int .u64 x1,.int .u64 x2,.int .u64 x3,.int .u64 x4,.int .u64 x5]/\ρ v=.agg #[.int .u64 x0,.int .u64 x1,.int .u64 x2,.int .u64 x3,.int .u64 x4,.int .u64 x5]:=by exact⟨_,_,rfl,by kernel_rfl,by kernel_rfl⟩):(execOp ρ o).run Tryz.prog w=.ok (.value (.bool false)) w:=by
 obtain⟨u,v,h,e1,e2⟩:=ho;simp only[execOp,h,e1,e2];go_simp
theorem je:Calls Tryz.prog 14 #[.int .u64 x] w fun e w'=>∃ Bz g K,e=.returned (pg g)/\Sx Bz w' K g (bgE x) [] 1 2/\w.heap.size<=Bz/\(∀ b,K b->Bz<=b)/\Below w.heap.size w w':=by
 have BB:=Below.refl w.heap.size w;refine aG (n:=19) Tryz.func14 rfl (by kernel_rfl) (by kernel_rfl) ?_
 refine af (ah (t 2 (.pointer none) ?_));refine ag (ab (af (ah ?_)));obtain⟨Bz,hBz⟩:∃ Bz,Bz=(w).heap.size:=⟨_,rfl⟩
 have hwB:w.heap.size<=Bz:=by rw[hBz]; exact BB.size
 refine tc 6 13 #[] (snewP Bz hBz) ?_
 rintro _ v1 ⟨g0,K0,rfl,S0,hK0,B0⟩;refine⟨_,rfl,?_⟩;replace BB:=ai BB B0;have A:=S0.at
 clear S0;refine t 3 (pg g0) ?_
 refine ag (ab (af (ah (t 8 (.agg #[.int .i64 2,.int .u64 0,.int .u64 0]) ?_))));refine tc 9 49 #[.agg #[.int .i64 2,.int .u64 0,.int .u64 0]] (vT (k:=2) (a:=0) (b:=0) (by decide) xW) ?_
 rintro _ v4 ⟨kv3,rfl,U2,B⟩;refine⟨_,rfl,?_⟩;replace BB:=ai BB B;replace A:=A.keep B;clear B;refine t 7 (.tuple #[kv3,.int .i64 0]) ?_
 refine t 10 (kv3) ?_
 refine t 11 (.int .i64 0) ?_
 refine t 4 (kv3) ?_
 refine t 5 (.int .i64 0) ?_
 refine ag (ab (af (ah (t 12 (pg g0) ?_))));refine t 13 (kv3) ?_
 refine t 14 (.int .u64 x) ?_
 refine t 15 (.agg #[.int .u64 3,.int .u64 x]) ?_
 refine tc 16 51 #[.agg #[.int .u64 3,.int .u64 x]] (mI) ?_
 rintro _ v7 ⟨pv6,rfl,U5,B⟩;refine⟨_,rfl,?_⟩;replace BB:=ai BB B;replace A:=A.keep B;replace U2:=bh U2 B;clear B;refine tc 17 50 #[pg g0,kv3,pv6] (oN A.sx U2 xW U5 (Nat.le_trans (qE _ _) (by decide)) (by omega) (by omega)) ?_
 rintro _ v9 ⟨rfl,K8,S,hK,hC⟩;refine⟨_,rfl,?_⟩;replace BB:=aD BB hC (fun b hb=>Nat.le_trans hwB (A.sx.kb b hb));replace U2:=A.byu U2 hC;replace U5:=A.byu U5 hC;replace A:=A.op S hK hC;clear S hK hC;clear U2;clear U5;refine ag (ab (aE [(2,.pointer none),(3,pg g0)] (by kernel_rfl) ?_));refine af (ah (t 18 (pg g0) ?_));refine t 2 (pg g0) ?_
 refine ag (ab (aI (aH (pg g0) (rs1 2 (by kernel_rfl) (by kernel_rfl)) ?_)));exact⟨_,_,_,rfl,A.sx,hwB,fun b hb=>A.sx.kb b hb,BB⟩
end
end Qu
end
section
namespace Qu
open Go.RowKit Go.Lib Pg Lim Gl Kv Bk Pw
attribute [local go_sem] Oper.semAt_some
set_option linter.unusedVariables false
set_option linter.unusedSimpArgs false
theorem kU:(.tuple #[.agg #[.int .u64 (uX (got kE4 (Ky.mk 12 7 0)) 0),.int .u64 (uX (got kE4 (Ky.mk 12 7 0)) 1),.int .u64 (uX (got kE4 (Ky.mk 12 7 0)) 2),.int .u64 (uX (got kE4 (Ky.mk 12 7 0)) 3),.int .u64 (uX (got kE4 (Ky.mk 12 7 0)) 4),.int .u64 (uX (got kE4 (Ky.mk 12 7 0)) 5)],.bool (Kv.look kE4 (Ky.mk 12 7 0)).isSome]:Value)=.tuple #[.agg #[.int .u64 20,.int .u64 16,.int .u64 0,.int .u64 5,.int .u64 0,.int .u64 4],.bool true]:=by
 obtain⟨⟨a,b,c⟩,⟨d,e⟩,f,g⟩:=kf8;rw[a,b,c,d,e,f,g]
theorem sm {w:World}:Calls Tryz.prog 11 #[] w fun e w'=>e=.returned (.bool true)/\Below w.heap.size w w':=by
 have BB:=Below.refl w.heap.size w;refine aG (n:=119) Tryz.func11 rfl (by kernel_rfl) (by kernel_rfl) ?_
 refine af (ah (t 0 (.bool false) ?_));refine ag (ab (af (ah (tc 10 14 #[.int .u64 7] (je) ?_))));rintro _ v1 ⟨Bz,g0,K0,rfl,S0,hwB,hK0,B0⟩;refine⟨_,rfl,?_⟩;replace BB:=ai BB B0;clear B0;have A:=S0.at
 clear S0;refine t 1 (pg g0) ?_
 refine ag (ab (af (af (ah (t 11 (pg g0) ?_)))));refine t 12 (.bool false) ?_
 refine ag (ab (bM ?_));refine aK (ab (af (ah (t 13 (pg g0) ?_))));refine t 14 (.agg #[.int .u64 20,.int .u64 16,.int .u64 0,.int .u64 5,.int .u64 0,.int .u64 9]) ?_
 refine tc 15 18 #[pg g0,.agg #[.int .u64 20,.int .u64 16,.int .u64 0,.int .u64 5,.int .u64 0,.int .u64 9]] (SxE.cast (E':=kE1) (hH (E:=kE0) A.sx (by decide) (by decide) (by decide) (by omega) (by omega)) rfl (congrArg (Value.int .u64) kf1)) ?_
 rintro _ v3 ⟨rfl,K2,S,hK,hC⟩;refine⟨_,rfl,?_⟩;replace BB:=aD BB hC (fun b hb=>Nat.le_trans hwB (A.sx.kb b hb));replace A:=A.op S hK hC;clear S hK hC;refine t 2 (.int .u64 7) ?_
 refine ag (ab (af (ah (t 16 (pg g0) ?_))));refine t 17 (.agg #[.int .u64 20,.int .u64 16,.int .u64 17,.int .u64 0,.int .u64 4,.int .u64 0,.slice none 0 0]) ?_
 refine tc 18 20 #[pg g0,.agg #[.int .u64 20,.int .u64 16,.int .u64 17,.int .u64 0,.int .u64 4,.int .u64 0,.slice none 0 0]] (SxE.cast (E':=kE2) (kT (E:=kE1) A.sx (by decide) (by decide) (by decide) (q9 _ _) (by decide) (by omega) (by omega)) rfl (congrArg (Value.int .u64) kf2)) ?_
 rintro _ v5 ⟨rfl,K4,S,hK,hC⟩;refine⟨_,rfl,?_⟩;replace BB:=aD BB hC (fun b hb=>Nat.le_trans hwB (A.sx.kb b hb));replace A:=A.op S hK hC;clear S hK hC;refine t 3 (.int .u64 8) ?_
 refine ag (ab (aE [(0,.bool false),(1,pg g0),(2,.int .u64 7),(3,.int .u64 8)] (by kernel_rfl) ?_));refine af (af (ah (t 19 (.int .u64 7) ?_)));refine t 20 (.bool false) ?_
 refine t 21 (.bool false) ?_
 refine t 22 (.int .u64 8) ?_
 refine t 23 (.bool false) ?_
 refine t 24 (.bool false) ?_
 refine t 25 (.bool false) ?_
 refine t 26 (pg g0) ?_
 refine tc 27 34 #[pg g0,.int .u64 20,.int .u64 16] (SxE.cast (E:=kE2) (bU A.sx (by decide) (by omega) (by omega)) rfl (congrArg (Value.int .u64) kf3)) ?_
 rintro _ v7 ⟨rfl,K6,S,hK,hC⟩;refine⟨_,rfl,?_⟩;replace BB:=aD BB hC (fun b hb=>Nat.le_trans hwB (A.sx.kb b hb));replace A:=A.op S hK hC;clear S hK hC;refine t 28 (.bool false) ?_
 refine t 29 (.bool false) ?_
 refine t 30 (.bool false) ?_
 refine t 31 (pg g0) ?_
 refine tc 32 22 #[pg g0,.int .u64 7,.int .u64 4] (SxF.cast (E':=kE3) (kQ (E:=kE2) A.sx (by decide) (by omega) (by omega)) rfl (congrArg Value.bool kf4)) ?_
 rintro _ v12 ⟨rfl,K8,n9,N10,S,qn9,qN10,hK,hC⟩;refine⟨_,rfl,?_⟩;replace BB:=aD BB hC (fun b hb=>Nat.le_trans hwB (A.sx.kb b hb));replace A:=A.op S hK hC;clear S hK hC;refine t 33 (.bool false) ?_
 refine t 34 (.bool false) ?_
 refine t 35 (.bool false) ?_
 refine t 36 (pg g0) ?_
 refine tc 37 22 #[pg g0,.int .u64 8,.int .u64 4] (SxF.cast (kQ (E:=kE3) A.sx (by decide) (by omega) (by omega)) kf5.2 (congrArg Value.bool kf5.1)) ?_
 rintro _ v17 ⟨rfl,K13,n14,N15,S,qn14,qN15,hK,hC⟩;refine⟨_,rfl,?_⟩;replace BB:=aD BB hC (fun b hb=>Nat.le_trans hwB (A.sx.kb b hb));replace A:=A.op S hK hC;clear S hK hC;refine t 38 (.bool false) ?_
 refine t 39 (.bool false) ?_
 refine t 40 (pg g0) ?_
 refine ta 41 [.int .u64 3] 27 (sg 1) ?_
 intro v18 g19 Xg19 hg19 B;have yg19:=Nat.le_trans BB.size hg19;have zg19:=Nat.le_trans A.size hg19;have nXg19:=A.new hg19;replace BB:=ai BB B;replace A:=A.keep B;clear B;refine t 42 (.agg #[sg 1 g19]) ?_
 refine tc 43 24 #[pg g0,.int .u64 8,.agg #[sg 1 g19]] (SxF.cast (E':=kE4) (jm (E:=kE3) A.sx (by decide) (nk_3 Xg19 nXg19) (by decide) (by omega) (by omega)) rfl (congrArg Value.bool kf6)) ?_
 rintro _ v24 ⟨rfl,K20,n21,N22,S,qn21,qN22,hK,hC⟩;refine⟨_,rfl,?_⟩;replace BB:=aD BB hC (fun b hb=>Nat.le_trans hwB (A.sx.kb b hb));replace nXg19:=opX Xg19 nXg19 hK hC;replace Xg19:=nXg19.1;replace nXg19:=nXg19.2;replace A:=A.op S hK hC;clear S hK hC;refine t 44 (.bool false) ?_
 refine t 45 (.bool false) ?_
 refine t 46 (.bool false) ?_
 refine t 47 (pg g0) ?_
 refine t 48 (.agg #[.slice none 0 0]) ?_
 refine tc 49 24 #[pg g0,.int .u64 7,.agg #[.slice none 0 0]] (SxF.cast (jm (E:=kE4) A.sx (by decide) (q9 _ _) (by decide) (by omega) (by omega)) kf7.2 (congrArg Value.bool kf7.1)) ?_
 rintro _ v29 ⟨rfl,K25,n26,N27,S,qn26,qN27,hK,hC⟩;refine⟨_,rfl,?_⟩;replace BB:=aD BB hC (fun b hb=>Nat.le_trans hwB (A.sx.kb b hb));replace nXg19:=opX Xg19 nXg19 hK hC;replace Xg19:=nXg19.1;replace nXg19:=nXg19.2;replace A:=A.op S hK hC;clear S hK hC;refine t 50 (.bool false) ?_
 refine ag (ab ?_);clear Xg19;refine aE [(0,.bool false),(1,pg g0),(50,.bool false)] (by kernel_rfl) ?_
 refine bM ?_
 refine aK (ab (af (ah (t 52 (pg g0) ?_))));refine tc 53 37 #[pg g0,.int .u64 7] (SxE.cast (e9 (E:=kE4) A.sx (by decide) (by omega) (by omega)) rfl kU) ?_
 rintro _ v31 ⟨rfl,K30,S,hK,hC⟩;refine⟨_,rfl,?_⟩;replace BB:=aD BB hC (fun b hb=>Nat.le_trans hwB (A.sx.kb b hb));replace A:=A.op S hK hC;clear S hK hC;refine t 51 (.tuple #[.agg #[.int .u64 20,.int .u64 16,.int .u64 0,.int .u64 5,.int .u64 0,.int .u64 4],.bool true]) ?_
 refine t 54 (.agg #[.int .u64 20,.int .u64 16,.int .u64 0,.int .u64 5,.int .u64 0,.int .u64 4]) ?_
 refine t 55 (.bool true) ?_
 refine ta 4 [.int .u64 0,.int .u64 0,.int .u64 0,.int .u64 0,.int .u64 0,.int .u64 0] 46 (pg) ?_
 intro v32 g33 Xg33 hg33 B;have yg33:=Nat.le_trans BB.size hg33;have zg33:=Nat.le_trans A.size hg33;have nXg33:=A.new hg33;replace BB:=ai BB B;replace A:=A.keep B;clear B;refine ts Xg33 0 (.agg #[.int .u64 20,.int .u64 16,.int .u64 0,.int .u64 5,.int .u64 0,.int .u64 4]) [.int .u64 20,.int .u64 16,.int .u64 0,.int .u64 5,.int .u64 0,.int .u64 4] [.int .u64 20,.int .u64 16,.int .u64 0,.int .u64 5,.int .u64 0,.int .u64 4] ?_
 intro v34 Y C;replace BB:=cZ BB C (by omega);replace A:=Bk.At.cell A Xg33 C zg33 nXg33 (by decide);clear C Xg33;have Xg33:=Y;clear Y;refine t 5 (.bool true) ?_
 refine ag (ab (af (ah (t 57 (pg g0) ?_))));have szA:=A.sx.sa.lt A.sx.sa.top;refine tc 58 38 #[pg g0,.int .u64 8] (tY.val (im (E:=kE4) A.sx (by decide) (by omega) (by omega)) kf9.1.2.1 kf9.1.2.2 kf9.2.1.1 kf9.2.1.2 kf9.2.2.1.1 kf9.2.2.1.2 kf9.2.2.2 kf9.1.1) ?_
 rintro _ v37 ⟨ak,nk,ck,rfl,zk,K36,S,hK,hC,Qk,mk,hzk⟩;refine⟨_,rfl,?_⟩;replace BB:=aD BB hC (fun b hb=>Nat.le_trans hwB (A.sx.kb b hb));replace nXg33:=opX Xg33 nXg33 hK hC;replace Xg33:=nXg33.1;replace nXg33:=nXg33.2;replace A:=A.op S hK hC;clear S hK hC;refine t 56 (.tuple #[.agg #[.int .u64 20,.int .u64 16,.int .u64 17,.int .u64 0,.int .u64 4,.int .u64 0,.slice ak nk ck],.bool true]) ?_
 refine t 59 (.agg #[.int .u64 20,.int .u64 16,.int .u64 17,.int .u64 0,.int .u64 4,.int .u64 0,.slice ak nk ck]) ?_
 refine t 60 (.bool true) ?_
 have lXg33:=Xg33.lt;have lQk:=Qk.lt;refine ta 6 [.int .u64 0,.int .u64 0,.int .u64 0,.int .u64 0,.int .u64 0,.int .u64 0,.slice none 0 0] 51 (pg) ?_
 intro v38 g39 Xg39 hg39 B;have yg39:=Nat.le_trans BB.size hg39;have zg39:=Nat.le_trans A.size hg39;have nXg39:=A.new hg39;replace BB:=ai BB B;replace A:=A.keep B;replace Xg33:=Xg33.keep B;replace Qk:=Qk.keep B;clear B;refine ts Xg39 0 (.agg #[.int .u64 20,.int .u64 16,.int .u64 17,.int .u64 0,.int .u64 4,.int .u64 0,.slice ak nk ck]) [.int .u64 20,.int .u64 16,.int .u64 17,.int .u64 0,.int .u64 4,.int .u64 0,.slice ak nk ck] [.int .u64 20,.int .u64 16,.int .u64 17,.int .u64 0,.int .u64 4,.int .u64 0,.slice ak nk ck] ?_
 intro v40 Y C;replace BB:=cZ BB C (by omega);replace A:=Bk.At.cell A Xg39 C zg39 nXg39 (by decide);replace Xg33:=Xg33.chg C (show g33≠g39 by omega);replace Qk:=Qk.cell C (show nk=0\/zk≠g39 by omega);clear C Xg39;have Xg39:=Y;clear Y;refine t 7 (.bool true) ?_
 refine ag (ab (aE [(0,.bool false),(1,pg g0),(4,pg g33),(5,.bool true),(6,pg g39),(7,.bool true)] (by kernel_rfl) ?_));refine af (af (ah (t 61 (.bool true) ?_)));refine t 62 (.bool false) ?_
 refine t 63 (.bool false) ?_
 refine t 64 (.bool true) ?_
 refine t 65 (.bool false) ?_
 refine t 66 (.bool false) ?_
 refine t 67 (.bool false) ?_
 refine tlr 68 [.int .u64 20,.int .u64 16,.int .u64 0,.int .u64 5,.int .u64 0,.int .u64 4] Xg33 0 ?_
 refine t 69 (.agg #[.int .u64 20,.int .u64 16,.int .u64 0,.int .u64 5,.int .u64 0,.int .u64 4]) ?_
 refine tr 70 (.bool false) (sF (x0:=20) (x1:=16) (x2:=0) (x3:=5) (x4:=0) (x5:=4)) ?_
 refine t 71 (.bool false) ?_
 refine t 72 (.bool false) ?_
 refine tlr 73 [.int .u64 20,.int .u64 16,.int .u64 17,.int .u64 0,.int .u64 4,.int .u64 0,.slice ak nk ck] Xg39 0 ?_
 have lXg33:=Xg33.lt;have lQk:=Qk.lt;have lXg39:=Xg39.lt;refine ta 74 [.int .u64 3] 27 (sg 1) ?_
 intro v41 g42 Xg42 hg42 B;have yg42:=Nat.le_trans BB.size hg42;have zg42:=Nat.le_trans A.size hg42;have nXg42:=A.new hg42;replace BB:=ai BB B;replace A:=A.keep B;replace Xg33:=Xg33.keep B;replace Qk:=Qk.keep B;replace Xg39:=Xg39.keep B;clear B;refine t 75 (.agg #[sg 1 g42]) ?_
 refine t 76 (.agg #[.int .u64 20,.int .u64 16,.int .u64 17,.int .u64 0,.int .u64 4,.int .u64 0,sg 1 g42]) ?_
 refine tc 77 39 #[.agg #[.int .u64 20,.int .u64 16,.int .u64 17,.int .u64 0,.int .u64 4,.int .u64 0,.slice ak nk ck],.agg #[.int .u64 20,.int .u64 16,.int .u64 17,.int .u64 0,.int .u64 4,.int .u64 0,sg 1 g42]] (mF Qk.o (wI (Xg42.cell (i:=0) rfl)) (Nat.le_trans mk (by decide)) (by decide)) ?_
 rintro _ v43 ⟨rfl,B⟩;refine⟨_,rfl,?_⟩;replace BB:=ai BB B;replace A:=A.keep B;replace Xg33:=Xg33.keep B;replace Qk:=Qk.keep B;replace Xg39:=Xg39.keep B;replace Xg42:=Xg42.keep B;clear B;clear Qk;refine t 78 (.bool false) ?_
 refine t 79 (.bool false) ?_
 refine ag (ab ?_);clear Xg33;clear Xg39;clear Xg42;refine aE [(0,.bool false),(1,pg g0),(79,.bool false)] (by kernel_rfl) ?_
 refine bM ?_
 refine aK (ab (af (ah (tr 80 (.agg #[.int .u64 7,.int .i64 12]) (er) ?_))));refine tr 81 (.agg #[.int .u64 8,.int .i64 13]) (er) ?_
 refine ta 8 [.int .u64 0,.int .i64 0] 64 (pg) ?_
 intro v44 g45 Xg45 hg45 B;have yg45:=Nat.le_trans BB.size hg45;have zg45:=Nat.le_trans A.size hg45;have nXg45:=A.new hg45;replace BB:=ai BB B;replace A:=A.keep B;clear B;have lXg45:=Xg45.lt;refine ta 9 [.int .u64 0,.int .i64 0] 64 (pg) ?_
 intro v46 g47 Xg47 hg47 B;have yg47:=Nat.le_trans BB.size hg47;have zg47:=Nat.le_trans A.size hg47;have nXg47:=A.new hg47;replace BB:=ai BB B;replace A:=A.keep B;replace Xg45:=Xg45.keep B;clear B;refine ts Xg45 0 (.agg #[.int .u64 7,.int .i64 12]) [.int .u64 7,.int .i64 12] [.int .u64 7,.int .i64 12] ?_
 intro v48 Y C;replace BB:=cZ BB C (by omega);replace A:=Bk.At.cell A Xg45 C zg45 nXg45 (by decide);replace Xg47:=Xg47.chg C (show g47≠g45 by omega);clear C Xg45;have Xg45:=Y;clear Y;refine ts Xg47 0 (.agg #[.int .u64 8,.int .i64 13]) [.int .u64 8,.int .i64 13] [.int .u64 8,.int .i64 13] ?_
 intro v49 Y C;replace BB:=cZ BB C (by omega);replace A:=Bk.At.cell A Xg47 C zg47 nXg47 (by decide);replace Xg45:=Xg45.chg C (show g45≠g47 by omega);clear C Xg47;have Xg47:=Y;clear Y;refine ag (ab (af ?_));replace BB:=BB.drew;replace A:=A.drew;replace Xg45:=Xg45.drew;replace Xg47:=Xg47.drew;refine bW (fun w'=>Blk w' g47 [.int .u64 8,.int .i64 13] 64/\Blk w' g45 [.int .u64 7,.int .i64 12] 64) (fun _=>false) ⟨Xg47,Xg45⟩ ?_
 refine z 0 82 (pg g0) ?_
 refine zlr 2 84 [.int .u64 8,.int .i64 13] (fun _ h=>h.1) 0 ?_
 refine zlr 3 85 [.int .u64 7,.int .i64 12] (fun _ h=>h.2) 0 ?_
 refine df [1,4] ?_
 have lgn83:=A.sx.sa.lt A.sx.sa.top;refine eO 1 (some 83) 32 #[pg g0,.int .u64 5] (fD.cast (gl (E:=kE4) A.sx (by decide) jc (by omega) (by omega)) kf10) ?_ ?_
 ·rintro _ v50 ⟨va,n83,rfl,Ua,S,qn83a,qn83b,qn83c,C⟩;have hC:=C.mono (fun b _ (e:b=g0)=>e▸A.sx.sa.top);replace BB:=aD BB hC (fun b hb=>Nat.le_trans hwB (A.sx.kb b hb));replace nXg45:=opX Xg45 nXg45 (fun _ h=>.inl h) hC;replace Xg45:=nXg45.1;replace nXg45:=nXg45.2;replace nXg47:=opX Xg47 nXg47 (fun _ h=>.inl h) hC;replace Xg47:=nXg47.1;replace nXg47:=nXg47.2;replace A:=A.op S (fun _ h=>.inl h) hC;clear S hC C;refine⟨_,rfl,⟨Xg47,Xg45⟩,?_⟩;have lXg45:=Xg45.lt;have lXg47:=Xg47.lt;refine za 4 86 [.int .u64 8,.int .i64 13,.int .u64 7,.int .i64 12] 64 (sg 2) ?_
  intro v51 g52 Xg52 hg52 B;have yg52:=Nat.le_trans BB.size hg52;have zg52:=Nat.le_trans A.size hg52;have nXg52:=A.new hg52;replace BB:=ai BB B;replace A:=A.keep B;replace Xg45:=Xg45.keep B;replace Xg47:=Xg47.keep B;replace Ua:=Ua.keep B;clear B;refine⟨⟨Xg47,Xg45⟩,?_⟩;refine zc 5 87 47 #[va,sg 2 g52] (bP Ua (dz [(8,13),(7,12)] Xg52 rfl (Nat.zero_le _) (by decide)) (by decide)) ?_
  rintro _ v53 ⟨rfl,B⟩;replace BB:=ai BB B;replace A:=A.keep B;replace Xg45:=Xg45.keep B;replace Xg47:=Xg47.keep B;replace Ua:=Ua.keep B;replace Xg52:=Xg52.keep B;clear B;clear Ua;refine⟨_,rfl,⟨Xg47,Xg45⟩,?_⟩;refine z 6 88 (.bool true) ?_
  refine z 7 89 (pg g0) ?_
  refine zlr 9 91 [.int .u64 8,.int .i64 13] (fun _ h=>h.1) 0 ?_
  refine df [8,10] ?_
  have lgn90:=A.sx.sa.lt A.sx.sa.top;refine eO 8 (some 90) 32 #[pg g0,.int .u64 4] (fD.cast (gl (E:=kE4) A.sx (by decide) jc (by omega) (by omega)) yL) ?_ ?_
  ·rintro _ v54 ⟨vb,n90,rfl,Ub,S,qn90a,qn90b,qn90c,C⟩;have hC:=C.mono (fun b _ (e:b=g0)=>e▸A.sx.sa.top);replace BB:=aD BB hC (fun b hb=>Nat.le_trans hwB (A.sx.kb b hb));replace nXg45:=opX Xg45 nXg45 (fun _ h=>.inl h) hC;replace Xg45:=nXg45.1;replace nXg45:=nXg45.2;replace nXg47:=opX Xg47 nXg47 (fun _ h=>.inl h) hC;replace Xg47:=nXg47.1;replace nXg47:=nXg47.2;replace nXg52:=opX Xg52 nXg52 (fun _ h=>.inl h) hC;replace Xg52:=nXg52.1;replace nXg52:=nXg52.2;replace A:=A.op S (fun _ h=>.inl h) hC;clear S hC C;refine⟨_,rfl,⟨Xg47,Xg45⟩,?_⟩;have lXg45:=Xg45.lt;have lXg47:=Xg47.lt;have lXg52:=Xg52.lt;refine za 10 92 [.int .u64 8,.int .i64 13] 64 (sg 1) ?_
   intro v55 g56 Xg56 hg56 B;have yg56:=Nat.le_trans BB.size hg56;have zg56:=Nat.le_trans A.size hg56;have nXg56:=A.new hg56;replace BB:=ai BB B;replace A:=A.keep B;replace Xg45:=Xg45.keep B;replace Xg47:=Xg47.keep B;replace Xg52:=Xg52.keep B;replace Ub:=Ub.keep B;clear B;refine⟨⟨Xg47,Xg45⟩,?_⟩;refine zc 11 93 47 #[vb,sg 1 g56] (bP Ub (dz [(8,13)] Xg56 rfl (Nat.zero_le _) (by decide)) (by decide)) ?_
   rintro _ v57 ⟨rfl,B⟩;replace BB:=ai BB B;replace A:=A.keep B;replace Xg45:=Xg45.keep B;replace Xg47:=Xg47.keep B;replace Xg52:=Xg52.keep B;replace Ub:=Ub.keep B;replace Xg56:=Xg56.keep B;clear B;clear Ub;refine⟨_,rfl,⟨Xg47,Xg45⟩,?_⟩;refine z 12 94 (.bool true) ?_
   refine z 13 95 (.bool true) ?_
   refine z 14 96 (pg g0) ?_
   refine zlr 16 98 [.int .u64 7,.int .i64 12] (fun _ h=>h.2) 0 ?_
   refine zlr 17 99 [.int .u64 8,.int .i64 13] (fun _ h=>h.1) 0 ?_
   refine df [15,18] ?_
   have lgn97:=A.sx.sa.lt A.sx.sa.top;refine eO 15 (some 97) 33 #[pg g0,.int .u64 16] (fD.cast (eY (E:=kE4) A.sx (by decide) jc (by omega) (by omega)) pC) ?_ ?_
   ·rintro _ v58 ⟨vc,n97,rfl,Uc,S,qn97a,qn97b,qn97c,C⟩;have hC:=C.mono (fun b _ (e:b=g0)=>e▸A.sx.sa.top);replace BB:=aD BB hC (fun b hb=>Nat.le_trans hwB (A.sx.kb b hb));replace nXg45:=opX Xg45 nXg45 (fun _ h=>.inl h) hC;replace Xg45:=nXg45.1;replace nXg45:=nXg45.2;replace nXg47:=opX Xg47 nXg47 (fun _ h=>.inl h) hC;replace Xg47:=nXg47.1;replace nXg47:=nXg47.2;replace nXg52:=opX Xg52 nXg52 (fun _ h=>.inl h) hC;replace Xg52:=nXg52.1;replace nXg52:=nXg52.2;replace nXg56:=opX Xg56 nXg56 (fun _ h=>.inl h) hC;replace Xg56:=nXg56.1;replace nXg56:=nXg56.2;replace A:=A.op S (fun _ h=>.inl h) hC;clear S hC C;refine⟨_,rfl,⟨Xg47,Xg45⟩,?_⟩;have lXg45:=Xg45.lt;have lXg47:=Xg47.lt;have lXg52:=Xg52.lt;have lXg56:=Xg56.lt;refine za 18 100 [.int .u64 7,.int .i64 12,.int .u64 8,.int .i64 13] 64 (sg 2) ?_
    intro v59 g60 Xg60 hg60 B;have yg60:=Nat.le_trans BB.size hg60;have zg60:=Nat.le_trans A.size hg60;have nXg60:=A.new hg60;replace BB:=ai BB B;replace A:=A.keep B;replace Xg45:=Xg45.keep B;replace Xg47:=Xg47.keep B;replace Xg52:=Xg52.keep B;replace Xg56:=Xg56.keep B;replace Uc:=Uc.keep B;clear B;refine⟨⟨Xg47,Xg45⟩,?_⟩;refine zc 19 101 47 #[vc,sg 2 g60] (bP Uc (dz [(7,12),(8,13)] Xg60 rfl (Nat.zero_le _) (by decide)) (by decide)) ?_
    rintro _ v61 ⟨rfl,B⟩;replace BB:=ai BB B;replace A:=A.keep B;replace Xg45:=Xg45.keep B;replace Xg47:=Xg47.keep B;replace Xg52:=Xg52.keep B;replace Xg56:=Xg56.keep B;replace Uc:=Uc.keep B;replace Xg60:=Xg60.keep B;clear B;clear Uc;refine⟨_,rfl,⟨Xg47,Xg45⟩,?_⟩;refine z 20 102 (.bool true) ?_
    refine z 21 103 (.bool true) ?_
    refine z 22 104 (pg g0) ?_
    refine zr 23 105 (.agg #[.int .u64 8,.int .i64 12]) (fun _ _=>er) ?_
    refine zc 24 106 26 #[pg g0,.agg #[.int .u64 8,.int .i64 12]] (SxF.cast (bQ (E:=kE4) A.sx (by decide) (by omega) (by omega)) gN.2 (congrArg Value.bool gN.1)) ?_
    rintro _ v66 ⟨rfl,K62,n63,N64,S,qn63,qN64,hK,hC⟩;replace BB:=aD BB hC (fun b hb=>Nat.le_trans hwB (A.sx.kb b hb));replace nXg45:=opX Xg45 nXg45 hK hC;replace Xg45:=nXg45.1;replace nXg45:=nXg45.2;replace nXg47:=opX Xg47 nXg47 hK hC;replace Xg47:=nXg47.1;replace nXg47:=nXg47.2;replace nXg52:=opX Xg52 nXg52 hK hC;replace Xg52:=nXg52.1;replace nXg52:=nXg52.2;replace nXg56:=opX Xg56 nXg56 hK hC;replace Xg56:=nXg56.1;replace nXg56:=nXg56.2;replace nXg60:=opX Xg60 nXg60 hK hC;replace Xg60:=nXg60.1;replace nXg60:=nXg60.2;replace A:=A.op S hK hC;clear S hK hC;refine⟨_,rfl,⟨Xg47,Xg45⟩,?_⟩;refine z 25 107 (.bool true) ?_
    refine z 26 108 (.bool true) ?_
    refine z 27 109 (.bool true) ?_
    refine z 28 110 (pg g0) ?_
    refine zlr 29 111 [.int .u64 8,.int .i64 13] (fun _ h=>h.1) 0 ?_
    refine zc 30 112 26 #[pg g0,.agg #[.int .u64 8,.int .i64 13]] (SxF.cast (E':=kE5) (bQ (E:=kE4) A.sx (by decide) (by omega) (by omega)) rfl (congrArg Value.bool gO.1)) ?_
    rintro _ v71 ⟨rfl,K67,n68,N69,S,qn68,qN69,hK,hC⟩;replace BB:=aD BB hC (fun b hb=>Nat.le_trans hwB (A.sx.kb b hb));replace nXg45:=opX Xg45 nXg45 hK hC;replace Xg45:=nXg45.1;replace nXg45:=nXg45.2;replace nXg47:=opX Xg47 nXg47 hK hC;replace Xg47:=nXg47.1;replace nXg47:=nXg47.2;replace nXg52:=opX Xg52 nXg52 hK hC;replace Xg52:=nXg52.1;replace nXg52:=nXg52.2;replace nXg56:=opX Xg56 nXg56 hK hC;replace Xg56:=nXg56.1;replace nXg56:=nXg56.2;replace nXg60:=opX Xg60 nXg60 hK hC;replace Xg60:=nXg60.1;replace nXg60:=nXg60.2;replace A:=A.op S hK hC;clear S hK hC;refine⟨_,rfl,⟨Xg47,Xg45⟩,?_⟩;refine z 31 113 (.bool true) ?_
    refine z 32 114 (.bool true) ?_
    refine z 33 115 (pg g0) ?_
    refine zc 34 116 34 #[pg g0,.int .u64 20,.int .u64 16] (SxE.cast (E:=kE5) (bU A.sx (by decide) (by omega) (by omega)) rfl (congrArg (Value.int .u64) gO.2)) ?_
    rintro _ v73 ⟨rfl,K72,S,hK,hC⟩;replace BB:=aD BB hC (fun b hb=>Nat.le_trans hwB (A.sx.kb b hb));replace nXg45:=opX Xg45 nXg45 hK hC;replace Xg45:=nXg45.1;replace nXg45:=nXg45.2;replace nXg47:=opX Xg47 nXg47 hK hC;replace Xg47:=nXg47.1;replace nXg47:=nXg47.2;replace nXg52:=opX Xg52 nXg52 hK hC;replace Xg52:=nXg52.1;replace nXg52:=nXg52.2;replace nXg56:=opX Xg56 nXg56 hK hC;replace Xg56:=nXg56.1;replace nXg56:=nXg56.2;replace nXg60:=opX Xg60 nXg60 hK hC;replace Xg60:=nXg60.1;replace nXg60:=nXg60.2;replace A:=A.op S hK hC;clear S hK hC;refine⟨_,rfl,⟨Xg47,Xg45⟩,?_⟩;refine z 35 117 (.bool true) ?_
    refine z 36 118 (.bool true) ?_
    refine z 37 0 (.bool true) ?_
    refine bg (ab ?_);clear Xg45;clear Xg47;clear Xg52;clear Xg56;clear Xg60;refine aE [(0,.bool true)] (by kernel_rfl) ?_
    refine aI (aH (.bool true) (rs1 0 (by kernel_rfl) (by kernel_rfl)) ?_);exact⟨rfl,BB⟩
   have lXg45:=Xg45.lt;have lXg47:=Xg47.lt;have lXg52:=Xg52.lt;have lXg56:=Xg56.lt;refine zaa 18 100 [.int .u64 7,.int .i64 12,.int .u64 8,.int .i64 13] 64 (sg 2) ?_ ?_
   ·intro v74 g75 Xg75 hg75 B;have yg75:=Nat.le_trans BB.size hg75;have zg75:=Nat.le_trans A.size hg75;have nXg75:=A.new hg75;replace BB:=ai BB B;replace A:=A.keep B;replace Xg45:=Xg45.keep B;replace Xg47:=Xg47.keep B;replace Xg52:=Xg52.keep B;replace Xg56:=Xg56.keep B;clear B;refine⟨⟨Xg47,Xg45⟩,?_⟩;have lgn97:=A.sx.sa.lt A.sx.sa.top;refine zc 15 97 33 #[pg g0,.int .u64 16] (fD.cast (eY (E:=kE4) A.sx (by decide) jc (by omega) (by omega)) pC) ?_
    rintro _ v76 ⟨vc,n97,rfl,Uc,S,qn97a,qn97b,qn97c,C⟩;have hC:=C.mono (fun b _ (e:b=g0)=>e▸A.sx.sa.top);replace BB:=aD BB hC (fun b hb=>Nat.le_trans hwB (A.sx.kb b hb));replace nXg45:=opX Xg45 nXg45 (fun _ h=>.inl h) hC;replace Xg45:=nXg45.1;replace nXg45:=nXg45.2;replace nXg47:=opX Xg47 nXg47 (fun _ h=>.inl h) hC;replace Xg47:=nXg47.1;replace nXg47:=nXg47.2;replace nXg52:=opX Xg52 nXg52 (fun _ h=>.inl h) hC;replace Xg52:=nXg52.1;replace nXg52:=nXg52.2;replace nXg56:=opX Xg56 nXg56 (fun _ h=>.inl h) hC;replace Xg56:=nXg56.1;replace nXg56:=nXg56.2;replace nXg75:=opX Xg75 nXg75 (fun _ h=>.inl h) hC;replace Xg75:=nXg75.1;replace nXg75:=nXg75.2;replace A:=A.op S (fun _ h=>.inl h) hC;clear S hC C;refine⟨_,rfl,⟨Xg47,Xg45⟩,?_⟩;refine zc 19 101 47 #[vc,sg 2 g75] (bP Uc (dz [(7,12),(8,13)] Xg75 rfl (Nat.zero_le _) (by decide)) (by decide)) ?_
    rintro _ v77 ⟨rfl,B⟩;replace BB:=ai BB B;replace A:=A.keep B;replace Xg45:=Xg45.keep B;replace Xg47:=Xg47.keep B;replace Xg52:=Xg52.keep B;replace Xg56:=Xg56.keep B;replace Xg75:=Xg75.keep B;replace Uc:=Uc.keep B;clear B;clear Uc;refine⟨_,rfl,⟨Xg47,Xg45⟩,?_⟩;refine z 20 102 (.bool true) ?_
    refine z 21 103 (.bool true) ?_
    refine z 22 104 (pg g0) ?_
    refine zr 23 105 (.agg #[.int .u64 8,.int .i64 12]) (fun _ _=>er) ?_
    refine zc 24 106 26 #[pg g0,.agg #[.int .u64 8,.int .i64 12]] (SxF.cast (bQ (E:=kE4) A.sx (by decide) (by omega) (by omega)) gN.2 (congrArg Value.bool gN.1)) ?_
    rintro _ v82 ⟨rfl,K78,n79,N80,S,qn79,qN80,hK,hC⟩;replace BB:=aD BB hC (fun b hb=>Nat.le_trans hwB (A.sx.kb b hb));replace nXg45:=opX Xg45 nXg45 hK hC;replace Xg45:=nXg45.1;replace nXg45:=nXg45.2;replace nXg47:=opX Xg47 nXg47 hK hC;replace Xg47:=nXg47.1;replace nXg47:=nXg47.2;replace nXg52:=opX Xg52 nXg52 hK hC;replace Xg52:=nXg52.1;replace nXg52:=nXg52.2;replace nXg56:=opX Xg56 nXg56 hK hC;replace Xg56:=nXg56.1;replace nXg56:=nXg56.2;replace nXg75:=opX Xg75 nXg75 hK hC;replace Xg75:=nXg75.1;replace nXg75:=nXg75.2;replace A:=A.op S hK hC;clear S hK hC;refine⟨_,rfl,⟨Xg47,Xg45⟩,?_⟩;refine z 25 107 (.bool true) ?_
    refine z 26 108 (.bool true) ?_
    refine z 27 109 (.bool true) ?_
    refine z 28 110 (pg g0) ?_
    refine zlr 29 111 [.int .u64 8,.int .i64 13] (fun _ h=>h.1) 0 ?_
    refine zc 30 112 26 #[pg g0,.agg #[.int .u64 8,.int .i64 13]] (SxF.cast (E':=kE5) (bQ (E:=kE4) A.sx (by decide) (by omega) (by omega)) rfl (congrArg Value.bool gO.1)) ?_
    rintro _ v87 ⟨rfl,K83,n84,N85,S,qn84,qN85,hK,hC⟩;replace BB:=aD BB hC (fun b hb=>Nat.le_trans hwB (A.sx.kb b hb));replace nXg45:=opX Xg45 nXg45 hK hC;replace Xg45:=nXg45.1;replace nXg45:=nXg45.2;replace nXg47:=opX Xg47 nXg47 hK hC;replace Xg47:=nXg47.1;replace nXg47:=nXg47.2;replace nXg52:=opX Xg52 nXg52 hK hC;replace Xg52:=nXg52.1;replace nXg52:=nXg52.2;replace nXg56:=opX Xg56 nXg56 hK hC;replace Xg56:=nXg56.1;replace nXg56:=nXg56.2;replace nXg75:=opX Xg75 nXg75 hK hC;replace Xg75:=nXg75.1;replace nXg75:=nXg75.2;replace A:=A.op S hK hC;clear S hK hC;refine⟨_,rfl,⟨Xg47,Xg45⟩,?_⟩;refine z 31 113 (.bool true) ?_
    refine z 32 114 (.bool true) ?_
    refine z 33 115 (pg g0) ?_
    refine zc 34 116 34 #[pg g0,.int .u64 20,.int .u64 16] (SxE.cast (E:=kE5) (bU A.sx (by decide) (by omega) (by omega)) rfl (congrArg (Value.int .u64) gO.2)) ?_
    rintro _ v89 ⟨rfl,K88,S,hK,hC⟩;replace BB:=aD BB hC (fun b hb=>Nat.le_trans hwB (A.sx.kb b hb));replace nXg45:=opX Xg45 nXg45 hK hC;replace Xg45:=nXg45.1;replace nXg45:=nXg45.2;replace nXg47:=opX Xg47 nXg47 hK hC;replace Xg47:=nXg47.1;replace nXg47:=nXg47.2;replace nXg52:=opX Xg52 nXg52 hK hC;replace Xg52:=nXg52.1;replace nXg52:=nXg52.2;replace nXg56:=opX Xg56 nXg56 hK hC;replace Xg56:=nXg56.1;replace nXg56:=nXg56.2;replace nXg75:=opX Xg75 nXg75 hK hC;replace Xg75:=nXg75.1;replace nXg75:=nXg75.2;replace A:=A.op S hK hC;clear S hK hC;refine⟨_,rfl,⟨Xg47,Xg45⟩,?_⟩;refine z 35 117 (.bool true) ?_
    refine z 36 118 (.bool true) ?_
    refine z 37 0 (.bool true) ?_
    refine bg (ab ?_);clear Xg45;clear Xg47;clear Xg52;clear Xg56;clear Xg75;refine aE [(0,.bool true)] (by kernel_rfl) ?_
    refine aI (aH (.bool true) (rs1 0 (by kernel_rfl) (by kernel_rfl)) ?_);exact⟨rfl,BB⟩
   exact e8
  have lXg45:=Xg45.lt;have lXg47:=Xg47.lt;have lXg52:=Xg52.lt;refine zaa 10 92 [.int .u64 8,.int .i64 13] 64 (sg 1) ?_ ?_
  ·intro v90 g91 Xg91 hg91 B;have yg91:=Nat.le_trans BB.size hg91;have zg91:=Nat.le_trans A.size hg91;have nXg91:=A.new hg91;replace BB:=ai BB B;replace A:=A.keep B;replace Xg45:=Xg45.keep B;replace Xg47:=Xg47.keep B;replace Xg52:=Xg52.keep B;clear B;refine⟨⟨Xg47,Xg45⟩,?_⟩;have lgn90:=A.sx.sa.lt A.sx.sa.top;refine zc 8 90 32 #[pg g0,.int .u64 4] (fD.cast (gl (E:=kE4) A.sx (by decide) jc (by omega) (by omega)) yL) ?_
   rintro _ v92 ⟨vb,n90,rfl,Ub,S,qn90a,qn90b,qn90c,C⟩;have hC:=C.mono (fun b _ (e:b=g0)=>e▸A.sx.sa.top);replace BB:=aD BB hC (fun b hb=>Nat.le_trans hwB (A.sx.kb b hb));replace nXg45:=opX Xg45 nXg45 (fun _ h=>.inl h) hC;replace Xg45:=nXg45.1;replace nXg45:=nXg45.2;replace nXg47:=opX Xg47 nXg47 (fun _ h=>.inl h) hC;replace Xg47:=nXg47.1;replace nXg47:=nXg47.2;replace nXg52:=opX Xg52 nXg52 (fun _ h=>.inl h) hC;replace Xg52:=nXg52.1;replace nXg52:=nXg52.2;replace nXg91:=opX Xg91 nXg91 (fun _ h=>.inl h) hC;replace Xg91:=nXg91.1;replace nXg91:=nXg91.2;replace A:=A.op S (fun _ h=>.inl h) hC;clear S hC C;refine⟨_,rfl,⟨Xg47,Xg45⟩,?_⟩;refine zc 11 93 47 #[vb,sg 1 g91] (bP Ub (dz [(8,13)] Xg91 rfl (Nat.zero_le _) (by decide)) (by decide)) ?_
   rintro _ v93 ⟨rfl,B⟩;replace BB:=ai BB B;replace A:=A.keep B;replace Xg45:=Xg45.keep B;replace Xg47:=Xg47.keep B;replace Xg52:=Xg52.keep B;replace Xg91:=Xg91.keep B;replace Ub:=Ub.keep B;clear B;clear Ub;refine⟨_,rfl,⟨Xg47,Xg45⟩,?_⟩;refine z 12 94 (.bool true) ?_
   refine z 13 95 (.bool true) ?_
   refine z 14 96 (pg g0) ?_
   refine zlr 16 98 [.int .u64 7,.int .i64 12] (fun _ h=>h.2) 0 ?_
   refine zlr 17 99 [.int .u64 8,.int .i64 13] (fun _ h=>h.1) 0 ?_
   refine df [15,18] ?_
   have lgn97:=A.sx.sa.lt A.sx.sa.top;refine eO 15 (some 97) 33 #[pg g0,.int .u64 16] (fD.cast (eY (E:=kE4) A.sx (by decide) jc (by omega) (by omega)) pC) ?_ ?_
   ·rintro _ v94 ⟨vc,n97,rfl,Uc,S,qn97a,qn97b,qn97c,C⟩;have hC:=C.mono (fun b _ (e:b=g0)=>e▸A.sx.sa.top);replace BB:=aD BB hC (fun b hb=>Nat.le_trans hwB (A.sx.kb b hb));replace nXg45:=opX Xg45 nXg45 (fun _ h=>.inl h) hC;replace Xg45:=nXg45.1;replace nXg45:=nXg45.2;replace nXg47:=opX Xg47 nXg47 (fun _ h=>.inl h) hC;replace Xg47:=nXg47.1;replace nXg47:=nXg47.2;replace nXg52:=opX Xg52 nXg52 (fun _ h=>.inl h) hC;replace Xg52:=nXg52.1;replace nXg52:=nXg52.2;replace nXg91:=opX Xg91 nXg91 (fun _ h=>.inl h) hC;replace Xg91:=nXg91.1;replace nXg91:=nXg91.2;replace A:=A.op S (fun _ h=>.inl h) hC;clear S hC C;refine⟨_,rfl,⟨Xg47,Xg45⟩,?_⟩;have lXg45:=Xg45.lt;have lXg47:=Xg47.lt;have lXg52:=Xg52.lt;have lXg91:=Xg91.lt;refine za 18 100 [.int .u64 7,.int .i64 12,.int .u64 8,.int .i64 13] 64 (sg 2) ?_
    intro v95 g96 Xg96 hg96 B;have yg96:=Nat.le_trans BB.size hg96;have zg96:=Nat.le_trans A.size hg96;have nXg96:=A.new hg96;replace BB:=ai BB B;replace A:=A.keep B;replace Xg45:=Xg45.keep B;replace Xg47:=Xg47.keep B;replace Xg52:=Xg52.keep B;replace Xg91:=Xg91.keep B;replace Uc:=Uc.keep B;clear B;refine⟨⟨Xg47,Xg45⟩,?_⟩;refine zc 19 101 47 #[vc,sg 2 g96] (bP Uc (dz [(7,12),(8,13)] Xg96 rfl (Nat.zero_le _) (by decide)) (by decide)) ?_
    rintro _ v97 ⟨rfl,B⟩;replace BB:=ai BB B;replace A:=A.keep B;replace Xg45:=Xg45.keep B;replace Xg47:=Xg47.keep B;replace Xg52:=Xg52.keep B;replace Xg91:=Xg91.keep B;replace Uc:=Uc.keep B;replace Xg96:=Xg96.keep B;clear B;clear Uc;refine⟨_,rfl,⟨Xg47,Xg45⟩,?_⟩;refine z 20 102 (.bool true) ?_
    refine z 21 103 (.bool true) ?_
    refine z 22 104 (pg g0) ?_
    refine zr 23 105 (.agg #[.int .u64 8,.int .i64 12]) (fun _ _=>er) ?_
    refine zc 24 106 26 #[pg g0,.agg #[.int .u64 8,.int .i64 12]] (SxF.cast (bQ (E:=kE4) A.sx (by decide) (by omega) (by omega)) gN.2 (congrArg Value.bool gN.1)) ?_
    rintro _ v102 ⟨rfl,K98,n99,N100,S,qn99,qN100,hK,hC⟩;replace BB:=aD BB hC (fun b hb=>Nat.le_trans hwB (A.sx.kb b hb));replace nXg45:=opX Xg45 nXg45 hK hC;replace Xg45:=nXg45.1;replace nXg45:=nXg45.2;replace nXg47:=opX Xg47 nXg47 hK hC;replace Xg47:=nXg47.1;replace nXg47:=nXg47.2;replace nXg52:=opX Xg52 nXg52 hK hC;replace Xg52:=nXg52.1;replace nXg52:=nXg52.2;replace nXg91:=opX Xg91 nXg91 hK hC;replace Xg91:=nXg91.1;replace nXg91:=nXg91.2;replace nXg96:=opX Xg96 nXg96 hK hC;replace Xg96:=nXg96.1;replace nXg96:=nXg96.2;replace A:=A.op S hK hC;clear S hK hC;refine⟨_,rfl,⟨Xg47,Xg45⟩,?_⟩;refine z 25 107 (.bool true) ?_
    refine z 26 108 (.bool true) ?_
    refine z 27 109 (.bool true) ?_
    refine z 28 110 (pg g0) ?_
    refine zlr 29 111 [.int .u64 8,.int .i64 13] (fun _ h=>h.1) 0 ?_
    refine zc 30 112 26 #[pg g0,.agg #[.int .u64 8,.int .i64 13]] (SxF.cast (E':=kE5) (bQ (E:=kE4) A.sx (by decide) (by omega) (by omega)) rfl (congrArg Value.bool gO.1)) ?_
    rintro _ v107 ⟨rfl,K103,n104,N105,S,qn104,qN105,hK,hC⟩;replace BB:=aD BB hC (fun b hb=>Nat.le_trans hwB (A.sx.kb b hb));replace nXg45:=opX Xg45 nXg45 hK hC;replace Xg45:=nXg45.1;replace nXg45:=nXg45.2;replace nXg47:=opX Xg47 nXg47 hK hC;replace Xg47:=nXg47.1;replace nXg47:=nXg47.2;replace nXg52:=opX Xg52 nXg52 hK hC;replace Xg52:=nXg52.1;replace nXg52:=nXg52.2;replace nXg91:=opX Xg91 nXg91 hK hC;replace Xg91:=nXg91.1;replace nXg91:=nXg91.2;replace nXg96:=opX Xg96 nXg96 hK hC;replace Xg96:=nXg96.1;replace nXg96:=nXg96.2;replace A:=A.op S hK hC;clear S hK hC;refine⟨_,rfl,⟨Xg47,Xg45⟩,?_⟩;refine z 31 113 (.bool true) ?_
    refine z 32 114 (.bool true) ?_
    refine z 33 115 (pg g0) ?_
    refine zc 34 116 34 #[pg g0,.int .u64 20,.int .u64 16] (SxE.cast (E:=kE5) (bU A.sx (by decide) (by omega) (by omega)) rfl (congrArg (Value.int .u64) gO.2)) ?_
    rintro _ v109 ⟨rfl,K108,S,hK,hC⟩;replace BB:=aD BB hC (fun b hb=>Nat.le_trans hwB (A.sx.kb b hb));replace nXg45:=opX Xg45 nXg45 hK hC;replace Xg45:=nXg45.1;replace nXg45:=nXg45.2;replace nXg47:=opX Xg47 nXg47 hK hC;replace Xg47:=nXg47.1;replace nXg47:=nXg47.2;replace nXg52:=opX Xg52 nXg52 hK hC;replace Xg52:=nXg52.1;replace nXg52:=nXg52.2;replace nXg91:=opX Xg91 nXg91 hK hC;replace Xg91:=nXg91.1;replace nXg91:=nXg91.2;replace nXg96:=opX Xg96 nXg96 hK hC;replace Xg96:=nXg96.1;replace nXg96:=nXg96.2;replace A:=A.op S hK hC;clear S hK hC;refine⟨_,rfl,⟨Xg47,Xg45⟩,?_⟩;refine z 35 117 (.bool true) ?_
    refine z 36 118 (.bool true) ?_
    refine z 37 0 (.bool true) ?_
    refine bg (ab ?_);clear Xg45;clear Xg47;clear Xg52;clear Xg91;clear Xg96;refine aE [(0,.bool true)] (by kernel_rfl) ?_
    refine aI (aH (.bool true) (rs1 0 (by kernel_rfl) (by kernel_rfl)) ?_);exact⟨rfl,BB⟩
   have lXg45:=Xg45.lt;have lXg47:=Xg47.lt;have lXg52:=Xg52.lt;have lXg91:=Xg91.lt;refine zaa 18 100 [.int .u64 7,.int .i64 12,.int .u64 8,.int .i64 13] 64 (sg 2) ?_ ?_
   ·intro v110 g111 Xg111 hg111 B;have yg111:=Nat.le_trans BB.size hg111;have zg111:=Nat.le_trans A.size hg111;have nXg111:=A.new hg111;replace BB:=ai BB B;replace A:=A.keep B;replace Xg45:=Xg45.keep B;replace Xg47:=Xg47.keep B;replace Xg52:=Xg52.keep B;replace Xg91:=Xg91.keep B;clear B;refine⟨⟨Xg47,Xg45⟩,?_⟩;have lgn97:=A.sx.sa.lt A.sx.sa.top;refine zc 15 97 33 #[pg g0,.int .u64 16] (fD.cast (eY (E:=kE4) A.sx (by decide) jc (by omega) (by omega)) pC) ?_
    rintro _ v112 ⟨vc,n97,rfl,Uc,S,qn97a,qn97b,qn97c,C⟩;have hC:=C.mono (fun b _ (e:b=g0)=>e▸A.sx.sa.top);replace BB:=aD BB hC (fun b hb=>Nat.le_trans hwB (A.sx.kb b hb));replace nXg45:=opX Xg45 nXg45 (fun _ h=>.inl h) hC;replace Xg45:=nXg45.1;replace nXg45:=nXg45.2;replace nXg47:=opX Xg47 nXg47 (fun _ h=>.inl h) hC;replace Xg47:=nXg47.1;replace nXg47:=nXg47.2;replace nXg52:=opX Xg52 nXg52 (fun _ h=>.inl h) hC;replace Xg52:=nXg52.1;replace nXg52:=nXg52.2;replace nXg91:=opX Xg91 nXg91 (fun _ h=>.inl h) hC;replace Xg91:=nXg91.1;replace nXg91:=nXg91.2;replace nXg111:=opX Xg111 nXg111 (fun _ h=>.inl h) hC;replace Xg111:=nXg111.1;replace nXg111:=nXg111.2;replace A:=A.op S (fun _ h=>.inl h) hC;clear S hC C;refine⟨_,rfl,⟨Xg47,Xg45⟩,?_⟩;refine zc 19 101 47 #[vc,sg 2 g111] (bP Uc (dz [(7,12),(8,13)] Xg111 rfl (Nat.zero_le _) (by decide)) (by decide)) ?_
    rintro _ v113 ⟨rfl,B⟩;replace BB:=ai BB B;replace A:=A.keep B;replace Xg45:=Xg45.keep B;replace Xg47:=Xg47.keep B;replace Xg52:=Xg52.keep B;replace Xg91:=Xg91.keep B;replace Xg111:=Xg111.keep B;replace Uc:=Uc.keep B;clear B;clear Uc;refine⟨_,rfl,⟨Xg47,Xg45⟩,?_⟩;refine z 20 102 (.bool true) ?_
    refine z 21 103 (.bool true) ?_
    refine z 22 104 (pg g0) ?_
    refine zr 23 105 (.agg #[.int .u64 8,.int .i64 12]) (fun _ _=>er) ?_
    refine zc 24 106 26 #[pg g0,.agg #[.int .u64 8,.int .i64 12]] (SxF.cast (bQ (E:=kE4) A.sx (by decide) (by omega) (by omega)) gN.2 (congrArg Value.bool gN.1)) ?_
    rintro _ v118 ⟨rfl,K114,n115,N116,S,qn115,qN116,hK,hC⟩;replace BB:=aD BB hC (fun b hb=>Nat.le_trans hwB (A.sx.kb b hb));replace nXg45:=opX Xg45 nXg45 hK hC;replace Xg45:=nXg45.1;replace nXg45:=nXg45.2;replace nXg47:=opX Xg47 nXg47 hK hC;replace Xg47:=nXg47.1;replace nXg47:=nXg47.2;replace nXg52:=opX Xg52 nXg52 hK hC;replace Xg52:=nXg52.1;replace nXg52:=nXg52.2;replace nXg91:=opX Xg91 nXg91 hK hC;replace Xg91:=nXg91.1;replace nXg91:=nXg91.2;replace nXg111:=opX Xg111 nXg111 hK hC;replace Xg111:=nXg111.1;replace nXg111:=nXg111.2;replace A:=A.op S hK hC;clear S hK hC;refine⟨_,rfl,⟨Xg47,Xg45⟩,?_⟩;refine z 25 107 (.bool true) ?_
    refine z 26 108 (.bool true) ?_
    refine z 27 109 (.bool true) ?_
    refine z 28 110 (pg g0) ?_
    refine zlr 29 111 [.int .u64 8,.int .i64 13] (fun _ h=>h.1) 0 ?_
    refine zc 30 112 26 #[pg g0,.agg #[.int .u64 8,.int .i64 13]] (SxF.cast (E':=kE5) (bQ (E:=kE4) A.sx (by decide) (by omega) (by omega)) rfl (congrArg Value.bool gO.1)) ?_
    rintro _ v123 ⟨rfl,K119,n120,N121,S,qn120,qN121,hK,hC⟩;replace BB:=aD BB hC (fun b hb=>Nat.le_trans hwB (A.sx.kb b hb));replace nXg45:=opX Xg45 nXg45 hK hC;replace Xg45:=nXg45.1;replace nXg45:=nXg45.2;replace nXg47:=opX Xg47 nXg47 hK hC;replace Xg47:=nXg47.1;replace nXg47:=nXg47.2;replace nXg52:=opX Xg52 nXg52 hK hC;replace Xg52:=nXg52.1;replace nXg52:=nXg52.2;replace nXg91:=opX Xg91 nXg91 hK hC;replace Xg91:=nXg91.1;replace nXg91:=nXg91.2;replace nXg111:=opX Xg111 nXg111 hK hC;replace Xg111:=nXg111.1;replace nXg111:=nXg111.2;replace A:=A.op S hK hC;clear S hK hC;refine⟨_,rfl,⟨Xg47,Xg45⟩,?_⟩;refine z 31 113 (.bool true) ?_
    refine z 32 114 (.bool true) ?_
    refine z 33 115 (pg g0) ?_
    refine zc 34 116 34 #[pg g0,.int .u64 20,.int .u64 16] (SxE.cast (E:=kE5) (bU A.sx (by decide) (by omega) (by omega)) rfl (congrArg (Value.int .u64) gO.2)) ?_
    rintro _ v125 ⟨rfl,K124,S,hK,hC⟩;replace BB:=aD BB hC (fun b hb=>Nat.le_trans hwB (A.sx.kb b hb));replace nXg45:=opX Xg45 nXg45 hK hC;replace Xg45:=nXg45.1;replace nXg45:=nXg45.2;replace nXg47:=opX Xg47 nXg47 hK hC;replace Xg47:=nXg47.1;replace nXg47:=nXg47.2;replace nXg52:=opX Xg52 nXg52 hK hC;replace Xg52:=nXg52.1;replace nXg52:=nXg52.2;replace nXg91:=opX Xg91 nXg91 hK hC;replace Xg91:=nXg91.1;replace nXg91:=nXg91.2;replace nXg111:=opX Xg111 nXg111 hK hC;replace Xg111:=nXg111.1;replace nXg111:=nXg111.2;replace A:=A.op S hK hC;clear S hK hC;refine⟨_,rfl,⟨Xg47,Xg45⟩,?_⟩;refine z 35 117 (.bool true) ?_
    refine z 36 118 (.bool true) ?_
    refine z 37 0 (.bool true) ?_
    refine bg (ab ?_);clear Xg45;clear Xg47;clear Xg52;clear Xg91;clear Xg111;refine aE [(0,.bool true)] (by kernel_rfl) ?_
    refine aI (aH (.bool true) (rs1 0 (by kernel_rfl) (by kernel_rfl)) ?_);exact⟨rfl,BB⟩
   exact e8
  exact e8
 have lXg45:=Xg45.lt;have lXg47:=Xg47.lt;refine zaa 4 86 [.int .u64 8,.int .i64 13,.int .u64 7,.int .i64 12] 64 (sg 2) ?_ ?_
 ·intro v126 g127 Xg127 hg127 B;have yg127:=Nat.le_trans BB.size hg127;have zg127:=Nat.le_trans A.size hg127;have nXg127:=A.new hg127;replace BB:=ai BB B;replace A:=A.keep B;replace Xg45:=Xg45.keep B;replace Xg47:=Xg47.keep B;clear B;refine⟨⟨Xg47,Xg45⟩,?_⟩;have lgn83:=A.sx.sa.lt A.sx.sa.top;refine zc 1 83 32 #[pg g0,.int .u64 5] (fD.cast (gl (E:=kE4) A.sx (by decide) jc (by omega) (by omega)) kf10) ?_
  rintro _ v128 ⟨va,n83,rfl,Ua,S,qn83a,qn83b,qn83c,C⟩;have hC:=C.mono (fun b _ (e:b=g0)=>e▸A.sx.sa.top);replace BB:=aD BB hC (fun b hb=>Nat.le_trans hwB (A.sx.kb b hb));replace nXg45:=opX Xg45 nXg45 (fun _ h=>.inl h) hC;replace Xg45:=nXg45.1;replace nXg45:=nXg45.2;replace nXg47:=opX Xg47 nXg47 (fun _ h=>.inl h) hC;replace Xg47:=nXg47.1;replace nXg47:=nXg47.2;replace nXg127:=opX Xg127 nXg127 (fun _ h=>.inl h) hC;replace Xg127:=nXg127.1;replace nXg127:=nXg127.2;replace A:=A.op S (fun _ h=>.inl h) hC;clear S hC C;refine⟨_,rfl,⟨Xg47,Xg45⟩,?_⟩;refine zc 5 87 47 #[va,sg 2 g127] (bP Ua (dz [(8,13),(7,12)] Xg127 rfl (Nat.zero_le _) (by decide)) (by decide)) ?_
  rintro _ v129 ⟨rfl,B⟩;replace BB:=ai BB B;replace A:=A.keep B;replace Xg45:=Xg45.keep B;replace Xg47:=Xg47.keep B;replace Xg127:=Xg127.keep B;replace Ua:=Ua.keep B;clear B;clear Ua;refine⟨_,rfl,⟨Xg47,Xg45⟩,?_⟩;refine z 6 88 (.bool true) ?_
  refine z 7 89 (pg g0) ?_
  refine zlr 9 91 [.int .u64 8,.int .i64 13] (fun _ h=>h.1) 0 ?_
  refine df [8,10] ?_
  have lgn90:=A.sx.sa.lt A.sx.sa.top;refine eO 8 (some 90) 32 #[pg g0,.int .u64 4] (fD.cast (gl (E:=kE4) A.sx (by decide) jc (by omega) (by omega)) yL) ?_ ?_
  ·rintro _ v130 ⟨vb,n90,rfl,Ub,S,qn90a,qn90b,qn90c,C⟩;have hC:=C.mono (fun b _ (e:b=g0)=>e▸A.sx.sa.top);replace BB:=aD BB hC (fun b hb=>Nat.le_trans hwB (A.sx.kb b hb));replace nXg45:=opX Xg45 nXg45 (fun _ h=>.inl h) hC;replace Xg45:=nXg45.1;replace nXg45:=nXg45.2;replace nXg47:=opX Xg47 nXg47 (fun _ h=>.inl h) hC;replace Xg47:=nXg47.1;replace nXg47:=nXg47.2;replace nXg127:=opX Xg127 nXg127 (fun _ h=>.inl h) hC;replace Xg127:=nXg127.1;replace nXg127:=nXg127.2;replace A:=A.op S (fun _ h=>.inl h) hC;clear S hC C;refine⟨_,rfl,⟨Xg47,Xg45⟩,?_⟩;have lXg45:=Xg45.lt;have lXg47:=Xg47.lt;have lXg127:=Xg127.lt;refine za 10 92 [.int .u64 8,.int .i64 13] 64 (sg 1) ?_
   intro v131 g132 Xg132 hg132 B;have yg132:=Nat.le_trans BB.size hg132;have zg132:=Nat.le_trans A.size hg132;have nXg132:=A.new hg132;replace BB:=ai BB B;replace A:=A.keep B;replace Xg45:=Xg45.keep B;replace Xg47:=Xg47.keep B;replace Xg127:=Xg127.keep B;replace Ub:=Ub.keep B;clear B;refine⟨⟨Xg47,Xg45⟩,?_⟩;refine zc 11 93 47 #[vb,sg 1 g132] (bP Ub (dz [(8,13)] Xg132 rfl (Nat.zero_le _) (by decide)) (by decide)) ?_
   rintro _ v133 ⟨rfl,B⟩;replace BB:=ai BB B;replace A:=A.keep B;replace Xg45:=Xg45.keep B;replace Xg47:=Xg47.keep B;replace Xg127:=Xg127.keep B;replace Ub:=Ub.keep B;replace Xg132:=Xg132.keep B;clear B;clear Ub;refine⟨_,rfl,⟨Xg47,Xg45⟩,?_⟩;refine z 12 94 (.bool true) ?_
   refine z 13 95 (.bool true) ?_
   refine z 14 96 (pg g0) ?_
   refine zlr 16 98 [.int .u64 7,.int .i64 12] (fun _ h=>h.2) 0 ?_
   refine zlr 17 99 [.int .u64 8,.int .i64 13] (fun _ h=>h.1) 0 ?_
   refine df [15,18] ?_
   have lgn97:=A.sx.sa.lt A.sx.sa.top;refine eO 15 (some 97) 33 #[pg g0,.int .u64 16] (fD.cast (eY (E:=kE4) A.sx (by decide) jc (by omega) (by omega)) pC) ?_ ?_
   ·rintro _ v134 ⟨vc,n97,rfl,Uc,S,qn97a,qn97b,qn97c,C⟩;have hC:=C.mono (fun b _ (e:b=g0)=>e▸A.sx.sa.top);replace BB:=aD BB hC (fun b hb=>Nat.le_trans hwB (A.sx.kb b hb));replace nXg45:=opX Xg45 nXg45 (fun _ h=>.inl h) hC;replace Xg45:=nXg45.1;replace nXg45:=nXg45.2;replace nXg47:=opX Xg47 nXg47 (fun _ h=>.inl h) hC;replace Xg47:=nXg47.1;replace nXg47:=nXg47.2;replace nXg127:=opX Xg127 nXg127 (fun _ h=>.inl h) hC;replace Xg127:=nXg127.1;replace nXg127:=nXg127.2;replace nXg132:=opX Xg132 nXg132 (fun _ h=>.inl h) hC;replace Xg132:=nXg132.1;replace nXg132:=nXg132.2;replace A:=A.op S (fun _ h=>.inl h) hC;clear S hC C;refine⟨_,rfl,⟨Xg47,Xg45⟩,?_⟩;have lXg45:=Xg45.lt;have lXg47:=Xg47.lt;have lXg127:=Xg127.lt;have lXg132:=Xg132.lt;refine za 18 100 [.int .u64 7,.int .i64 12,.int .u64 8,.int .i64 13] 64 (sg 2) ?_
    intro v135 g136 Xg136 hg136 B;have yg136:=Nat.le_trans BB.size hg136;have zg136:=Nat.le_trans A.size hg136;have nXg136:=A.new hg136;replace BB:=ai BB B;replace A:=A.keep B;replace Xg45:=Xg45.keep B;replace Xg47:=Xg47.keep B;replace Xg127:=Xg127.keep B;replace Xg132:=Xg132.keep B;replace Uc:=Uc.keep B;clear B;refine⟨⟨Xg47,Xg45⟩,?_⟩;refine zc 19 101 47 #[vc,sg 2 g136] (bP Uc (dz [(7,12),(8,13)] Xg136 rfl (Nat.zero_le _) (by decide)) (by decide)) ?_
    rintro _ v137 ⟨rfl,B⟩;replace BB:=ai BB B;replace A:=A.keep B;replace Xg45:=Xg45.keep B;replace Xg47:=Xg47.keep B;replace Xg127:=Xg127.keep B;replace Xg132:=Xg132.keep B;replace Uc:=Uc.keep B;replace Xg136:=Xg136.keep B;clear B;clear Uc;refine⟨_,rfl,⟨Xg47,Xg45⟩,?_⟩;refine z 20 102 (.bool true) ?_
    refine z 21 103 (.bool true) ?_
    refine z 22 104 (pg g0) ?_
    refine zr 23 105 (.agg #[.int .u64 8,.int .i64 12]) (fun _ _=>er) ?_
    refine zc 24 106 26 #[pg g0,.agg #[.int .u64 8,.int .i64 12]] (SxF.cast (bQ (E:=kE4) A.sx (by decide) (by omega) (by omega)) gN.2 (congrArg Value.bool gN.1)) ?_
    rintro _ v142 ⟨rfl,K138,n139,N140,S,qn139,qN140,hK,hC⟩;replace BB:=aD BB hC (fun b hb=>Nat.le_trans hwB (A.sx.kb b hb));replace nXg45:=opX Xg45 nXg45 hK hC;replace Xg45:=nXg45.1;replace nXg45:=nXg45.2;replace nXg47:=opX Xg47 nXg47 hK hC;replace Xg47:=nXg47.1;replace nXg47:=nXg47.2;replace nXg127:=opX Xg127 nXg127 hK hC;replace Xg127:=nXg127.1;replace nXg127:=nXg127.2;replace nXg132:=opX Xg132 nXg132 hK hC;replace Xg132:=nXg132.1;replace nXg132:=nXg132.2;replace nXg136:=opX Xg136 nXg136 hK hC;replace Xg136:=nXg136.1;replace nXg136:=nXg136.2;replace A:=A.op S hK hC;clear S hK hC;refine⟨_,rfl,⟨Xg47,Xg45⟩,?_⟩;refine z 25 107 (.bool true) ?_
    refine z 26 108 (.bool true) ?_
    refine z 27 109 (.bool true) ?_
    refine z 28 110 (pg g0) ?_
    refine zlr 29 111 [.int .u64 8,.int .i64 13] (fun _ h=>h.1) 0 ?_
    refine zc 30 112 26 #[pg g0,.agg #[.int .u64 8,.int .i64 13]] (SxF.cast (E':=kE5) (bQ (E:=kE4) A.sx (by decide) (by omega) (by omega)) rfl (congrArg Value.bool gO.1)) ?_
    rintro _ v147 ⟨rfl,K143,n144,N145,S,qn144,qN145,hK,hC⟩;replace BB:=aD BB hC (fun b hb=>Nat.le_trans hwB (A.sx.kb b hb));replace nXg45:=opX Xg45 nXg45 hK hC;replace Xg45:=nXg45.1;replace nXg45:=nXg45.2;replace nXg47:=opX Xg47 nXg47 hK hC;replace Xg47:=nXg47.1;replace nXg47:=nXg47.2;replace nXg127:=opX Xg127 nXg127 hK hC;replace Xg127:=nXg127.1;replace nXg127:=nXg127.2;replace nXg132:=opX Xg132 nXg132 hK hC;replace Xg132:=nXg132.1;replace nXg132:=nXg132.2;replace nXg136:=opX Xg136 nXg136 hK hC;replace Xg136:=nXg136.1;replace nXg136:=nXg136.2;replace A:=A.op S hK hC;clear S hK hC;refine⟨_,rfl,⟨Xg47,Xg45⟩,?_⟩;refine z 31 113 (.bool true) ?_
    refine z 32 114 (.bool true) ?_
    refine z 33 115 (pg g0) ?_
    refine zc 34 116 34 #[pg g0,.int .u64 20,.int .u64 16] (SxE.cast (E:=kE5) (bU A.sx (by decide) (by omega) (by omega)) rfl (congrArg (Value.int .u64) gO.2)) ?_
    rintro _ v149 ⟨rfl,K148,S,hK,hC⟩;replace BB:=aD BB hC (fun b hb=>Nat.le_trans hwB (A.sx.kb b hb));replace nXg45:=opX Xg45 nXg45 hK hC;replace Xg45:=nXg45.1;replace nXg45:=nXg45.2;replace nXg47:=opX Xg47 nXg47 hK hC;replace Xg47:=nXg47.1;replace nXg47:=nXg47.2;replace nXg127:=opX Xg127 nXg127 hK hC;replace Xg127:=nXg127.1;replace nXg127:=nXg127.2;replace nXg132:=opX Xg132 nXg132 hK hC;replace Xg132:=nXg132.1;replace nXg132:=nXg132.2;replace nXg136:=opX Xg136 nXg136 hK hC;replace Xg136:=nXg136.1;replace nXg136:=nXg136.2;replace A:=A.op S hK hC;clear S hK hC;refine⟨_,rfl,⟨Xg47,Xg45⟩,?_⟩;refine z 35 117 (.bool true) ?_
    refine z 36 118 (.bool true) ?_
    refine z 37 0 (.bool true) ?_
    refine bg (ab ?_);clear Xg45;clear Xg47;clear Xg127;clear Xg132;clear Xg136;refine aE [(0,.bool true)] (by kernel_rfl) ?_
    refine aI (aH (.bool true) (rs1 0 (by kernel_rfl) (by kernel_rfl)) ?_);exact⟨rfl,BB⟩
   have lXg45:=Xg45.lt;have lXg47:=Xg47.lt;have lXg127:=Xg127.lt;have lXg132:=Xg132.lt;refine zaa 18 100 [.int .u64 7,.int .i64 12,.int .u64 8,.int .i64 13] 64 (sg 2) ?_ ?_
   ·intro v150 g151 Xg151 hg151 B;have yg151:=Nat.le_trans BB.size hg151;have zg151:=Nat.le_trans A.size hg151;have nXg151:=A.new hg151;replace BB:=ai BB B;replace A:=A.keep B;replace Xg45:=Xg45.keep B;replace Xg47:=Xg47.keep B;replace Xg127:=Xg127.keep B;replace Xg132:=Xg132.keep B;clear B;refine⟨⟨Xg47,Xg45⟩,?_⟩;have lgn97:=A.sx.sa.lt A.sx.sa.top;refine zc 15 97 33 #[pg g0,.int .u64 16] (fD.cast (eY (E:=kE4) A.sx (by decide) jc (by omega) (by omega)) pC) ?_
    rintro _ v152 ⟨vc,n97,rfl,Uc,S,qn97a,qn97b,qn97c,C⟩;have hC:=C.mono (fun b _ (e:b=g0)=>e▸A.sx.sa.top);replace BB:=aD BB hC (fun b hb=>Nat.le_trans hwB (A.sx.kb b hb));replace nXg45:=opX Xg45 nXg45 (fun _ h=>.inl h) hC;replace Xg45:=nXg45.1;replace nXg45:=nXg45.2;replace nXg47:=opX Xg47 nXg47 (fun _ h=>.inl h) hC;replace Xg47:=nXg47.1;replace nXg47:=nXg47.2;replace nXg127:=opX Xg127 nXg127 (fun _ h=>.inl h) hC;replace Xg127:=nXg127.1;replace nXg127:=nXg127.2;replace nXg132:=opX Xg132 nXg132 (fun _ h=>.inl h) hC;replace Xg132:=nXg132.1;replace nXg132:=nXg132.2;replace nXg151:=opX Xg151 nXg151 (fun _ h=>.inl h) hC;replace Xg151:=nXg151.1;replace nXg151:=nXg151.2;replace A:=A.op S (fun _ h=>.inl h) hC;clear S hC C;refine⟨_,rfl,⟨Xg47,Xg45⟩,?_⟩;refine zc 19 101 47 #[vc,sg 2 g151] (bP Uc (dz [(7,12),(8,13)] Xg151 rfl (Nat.zero_le _) (by decide)) (by decide)) ?_
    rintro _ v153 ⟨rfl,B⟩;replace BB:=ai BB B;replace A:=A.keep B;replace Xg45:=Xg45.keep B;replace Xg47:=Xg47.keep B;replace Xg127:=Xg127.keep B;replace Xg132:=Xg132.keep B;replace Xg151:=Xg151.keep B;replace Uc:=Uc.keep B;clear B;clear Uc;refine⟨_,rfl,⟨Xg47,Xg45⟩,?_⟩;refine z 20 102 (.bool true) ?_
    refine z 21 103 (.bool true) ?_
    refine z 22 104 (pg g0) ?_
    refine zr 23 105 (.agg #[.int .u64 8,.int .i64 12]) (fun _ _=>er) ?_
    refine zc 24 106 26 #[pg g0,.agg #[.int .u64 8,.int .i64 12]] (SxF.cast (bQ (E:=kE4) A.sx (by decide) (by omega) (by omega)) gN.2 (congrArg Value.bool gN.1)) ?_
    rintro _ v158 ⟨rfl,K154,n155,N156,S,qn155,qN156,hK,hC⟩;replace BB:=aD BB hC (fun b hb=>Nat.le_trans hwB (A.sx.kb b hb));replace nXg45:=opX Xg45 nXg45 hK hC;replace Xg45:=nXg45.1;replace nXg45:=nXg45.2;replace nXg47:=opX Xg47 nXg47 hK hC;replace Xg47:=nXg47.1;replace nXg47:=nXg47.2;replace nXg127:=opX Xg127 nXg127 hK hC;replace Xg127:=nXg127.1;replace nXg127:=nXg127.2;replace nXg132:=opX Xg132 nXg132 hK hC;replace Xg132:=nXg132.1;replace nXg132:=nXg132.2;replace nXg151:=opX Xg151 nXg151 hK hC;replace Xg151:=nXg151.1;replace nXg151:=nXg151.2;replace A:=A.op S hK hC;clear S hK hC;refine⟨_,rfl,⟨Xg47,Xg45⟩,?_⟩;refine z 25 107 (.bool true) ?_
    refine z 26 108 (.bool true) ?_
    refine z 27 109 (.bool true) ?_
    refine z 28 110 (pg g0) ?_
    refine zlr 29 111 [.int .u64 8,.int .i64 13] (fun _ h=>h.1) 0 ?_
    refine zc 30 112 26 #[pg g0,.agg #[.int .u64 8,.int .i64 13]] (SxF.cast (E':=kE5) (bQ (E:=kE4) A.sx (by decide) (by omega) (by omega)) rfl (congrArg Value.bool gO.1)) ?_
    rintro _ v163 ⟨rfl,K159,n160,N161,S,qn160,qN161,hK,hC⟩;replace BB:=aD BB hC (fun b hb=>Nat.le_trans hwB (A.sx.kb b hb));replace nXg45:=opX Xg45 nXg45 hK hC;replace Xg45:=nXg45.1;replace nXg45:=nXg45.2;replace nXg47:=opX Xg47 nXg47 hK hC;replace Xg47:=nXg47.1;replace nXg47:=nXg47.2;replace nXg127:=opX Xg127 nXg127 hK hC;replace Xg127:=nXg127.1;replace nXg127:=nXg127.2;replace nXg132:=opX Xg132 nXg132 hK hC;replace Xg132:=nXg132.1;replace nXg132:=nXg132.2;replace nXg151:=opX Xg151 nXg151 hK hC;replace Xg151:=nXg151.1;replace nXg151:=nXg151.2;replace A:=A.op S hK hC;clear S hK hC;refine⟨_,rfl,⟨Xg47,Xg45⟩,?_⟩;refine z 31 113 (.bool true) ?_
    refine z 32 114 (.bool true) ?_
    refine z 33 115 (pg g0) ?_
    refine zc 34 116 34 #[pg g0,.int .u64 20,.int .u64 16] (SxE.cast (E:=kE5) (bU A.sx (by decide) (by omega) (by omega)) rfl (congrArg (Value.int .u64) gO.2)) ?_
    rintro _ v165 ⟨rfl,K164,S,hK,hC⟩;replace BB:=aD BB hC (fun b hb=>Nat.le_trans hwB (A.sx.kb b hb));replace nXg45:=opX Xg45 nXg45 hK hC;replace Xg45:=nXg45.1;replace nXg45:=nXg45.2;replace nXg47:=opX Xg47 nXg47 hK hC;replace Xg47:=nXg47.1;replace nXg47:=nXg47.2;replace nXg127:=opX Xg127 nXg127 hK hC;replace Xg127:=nXg127.1;replace nXg127:=nXg127.2;replace nXg132:=opX Xg132 nXg132 hK hC;replace Xg132:=nXg132.1;replace nXg132:=nXg132.2;replace nXg151:=opX Xg151 nXg151 hK hC;replace Xg151:=nXg151.1;replace nXg151:=nXg151.2;replace A:=A.op S hK hC;clear S hK hC;refine⟨_,rfl,⟨Xg47,Xg45⟩,?_⟩;refine z 35 117 (.bool true) ?_
    refine z 36 118 (.bool true) ?_
    refine z 37 0 (.bool true) ?_
    refine bg (ab ?_);clear Xg45;clear Xg47;clear Xg127;clear Xg132;clear Xg151;refine aE [(0,.bool true)] (by kernel_rfl) ?_
    refine aI (aH (.bool true) (rs1 0 (by kernel_rfl) (by kernel_rfl)) ?_);exact⟨rfl,BB⟩
   exact e8
  have lXg45:=Xg45.lt;have lXg47:=Xg47.lt;have lXg127:=Xg127.lt;refine zaa 10 92 [.int .u64 8,.int .i64 13] 64 (sg 1) ?_ ?_
  ·intro v166 g167 Xg167 hg167 B;have yg167:=Nat.le_trans BB.size hg167;have zg167:=Nat.le_trans A.size hg167;have nXg167:=A.new hg167;replace BB:=ai BB B;replace A:=A.keep B;replace Xg45:=Xg45.keep B;replace Xg47:=Xg47.keep B;replace Xg127:=Xg127.keep B;clear B;refine⟨⟨Xg47,Xg45⟩,?_⟩;have lgn90:=A.sx.sa.lt A.sx.sa.top;refine zc 8 90 32 #[pg g0,.int .u64 4] (fD.cast (gl (E:=kE4) A.sx (by decide) jc (by omega) (by omega)) yL) ?_
   rintro _ v168 ⟨vb,n90,rfl,Ub,S,qn90a,qn90b,qn90c,C⟩;have hC:=C.mono (fun b _ (e:b=g0)=>e▸A.sx.sa.top);replace BB:=aD BB hC (fun b hb=>Nat.le_trans hwB (A.sx.kb b hb));replace nXg45:=opX Xg45 nXg45 (fun _ h=>.inl h) hC;replace Xg45:=nXg45.1;replace nXg45:=nXg45.2;replace nXg47:=opX Xg47 nXg47 (fun _ h=>.inl h) hC;replace Xg47:=nXg47.1;replace nXg47:=nXg47.2;replace nXg127:=opX Xg127 nXg127 (fun _ h=>.inl h) hC;replace Xg127:=nXg127.1;replace nXg127:=nXg127.2;replace nXg167:=opX Xg167 nXg167 (fun _ h=>.inl h) hC;replace Xg167:=nXg167.1;replace nXg167:=nXg167.2;replace A:=A.op S (fun _ h=>.inl h) hC;clear S hC C;refine⟨_,rfl,⟨Xg47,Xg45⟩,?_⟩;refine zc 11 93 47 #[vb,sg 1 g167] (bP Ub (dz [(8,13)] Xg167 rfl (Nat.zero_le _) (by decide)) (by decide)) ?_
   rintro _ v169 ⟨rfl,B⟩;replace BB:=ai BB B;replace A:=A.keep B;replace Xg45:=Xg45.keep B;replace Xg47:=Xg47.keep B;replace Xg127:=Xg127.keep B;replace Xg167:=Xg167.keep B;replace Ub:=Ub.keep B;clear B;clear Ub;refine⟨_,rfl,⟨Xg47,Xg45⟩,?_⟩;refine z 12 94 (.bool true) ?_
   refine z 13 95 (.bool true) ?_
   refine z 14 96 (pg g0) ?_
   refine zlr 16 98 [.int .u64 7,.int .i64 12] (fun _ h=>h.2) 0 ?_
   refine zlr 17 99 [.int .u64 8,.int .i64 13] (fun _ h=>h.1) 0 ?_
   refine df [15,18] ?_
   have lgn97:=A.sx.sa.lt A.sx.sa.top;refine eO 15 (some 97) 33 #[pg g0,.int .u64 16] (fD.cast (eY (E:=kE4) A.sx (by decide) jc (by omega) (by omega)) pC) ?_ ?_
   ·rintro _ v170 ⟨vc,n97,rfl,Uc,S,qn97a,qn97b,qn97c,C⟩;have hC:=C.mono (fun b _ (e:b=g0)=>e▸A.sx.sa.top);replace BB:=aD BB hC (fun b hb=>Nat.le_trans hwB (A.sx.kb b hb));replace nXg45:=opX Xg45 nXg45 (fun _ h=>.inl h) hC;replace Xg45:=nXg45.1;replace nXg45:=nXg45.2;replace nXg47:=opX Xg47 nXg47 (fun _ h=>.inl h) hC;replace Xg47:=nXg47.1;replace nXg47:=nXg47.2;replace nXg127:=opX Xg127 nXg127 (fun _ h=>.inl h) hC;replace Xg127:=nXg127.1;replace nXg127:=nXg127.2;replace nXg167:=opX Xg167 nXg167 (fun _ h=>.inl h) hC;replace Xg167:=nXg167.1;replace nXg167:=nXg167.2;replace A:=A.op S (fun _ h=>.inl h) hC;clear S hC C;refine⟨_,rfl,⟨Xg47,Xg45⟩,?_⟩;have lXg45:=Xg45.lt;have lXg47:=Xg47.lt;have lXg127:=Xg127.lt;have lXg167:=Xg167.lt;refine za 18 100 [.int .u64 7,.int .i64 12,.int .u64 8,.int .i64 13] 64 (sg 2) ?_
    intro v171 g172 Xg172 hg172 B;have yg172:=Nat.le_trans BB.size hg172;have zg172:=Nat.le_trans A.size hg172;have nXg172:=A.new hg172;replace BB:=ai BB B;replace A:=A.keep B;replace Xg45:=Xg45.keep B;replace Xg47:=Xg47.keep B;replace Xg127:=Xg127.keep B;replace Xg167:=Xg167.keep B;replace Uc:=Uc.keep B;clear B;refine⟨⟨Xg47,Xg45⟩,?_⟩;refine zc 19 101 47 #[vc,sg 2 g172] (bP Uc (dz [(7,12),(8,13)] Xg172 rfl (Nat.zero_le _) (by decide)) (by decide)) ?_
    rintro _ v173 ⟨rfl,B⟩;replace BB:=ai BB B;replace A:=A.keep B;replace Xg45:=Xg45.keep B;replace Xg47:=Xg47.keep B;replace Xg127:=Xg127.keep B;replace Xg167:=Xg167.keep B;replace Uc:=Uc.keep B;replace Xg172:=Xg172.keep B;clear B;clear Uc;refine⟨_,rfl,⟨Xg47,Xg45⟩,?_⟩;refine z 20 102 (.bool true) ?_
    refine z 21 103 (.bool true) ?_
    refine z 22 104 (pg g0) ?_
    refine zr 23 105 (.agg #[.int .u64 8,.int .i64 12]) (fun _ _=>er) ?_
    refine zc 24 106 26 #[pg g0,.agg #[.int .u64 8,.int .i64 12]] (SxF.cast (bQ (E:=kE4) A.sx (by decide) (by omega) (by omega)) gN.2 (congrArg Value.bool gN.1)) ?_
    rintro _ v178 ⟨rfl,K174,n175,N176,S,qn175,qN176,hK,hC⟩;replace BB:=aD BB hC (fun b hb=>Nat.le_trans hwB (A.sx.kb b hb));replace nXg45:=opX Xg45 nXg45 hK hC;replace Xg45:=nXg45.1;replace nXg45:=nXg45.2;replace nXg47:=opX Xg47 nXg47 hK hC;replace Xg47:=nXg47.1;replace nXg47:=nXg47.2;replace nXg127:=opX Xg127 nXg127 hK hC;replace Xg127:=nXg127.1;replace nXg127:=nXg127.2;replace nXg167:=opX Xg167 nXg167 hK hC;replace Xg167:=nXg167.1;replace nXg167:=nXg167.2;replace nXg172:=opX Xg172 nXg172 hK hC;replace Xg172:=nXg172.1;replace nXg172:=nXg172.2;replace A:=A.op S hK hC;clear S hK hC;refine⟨_,rfl,⟨Xg47,Xg45⟩,?_⟩;refine z 25 107 (.bool true) ?_
    refine z 26 108 (.bool true) ?_
    refine z 27 109 (.bool true) ?_
    refine z 28 110 (pg g0) ?_
    refine zlr 29 111 [.int .u64 8,.int .i64 13] (fun _ h=>h.1) 0 ?_
    refine zc 30 112 26 #[pg g0,.agg #[.int .u64 8,.int .i64 13]] (SxF.cast (E':=kE5) (bQ (E:=kE4) A.sx (by decide) (by omega) (by omega)) rfl (congrArg Value.bool gO.1)) ?_
    rintro _ v183 ⟨rfl,K179,n180,N181,S,qn180,qN181,hK,hC⟩;replace BB:=aD BB hC (fun b hb=>Nat.le_trans hwB (A.sx.kb b hb));replace nXg45:=opX Xg45 nXg45 hK hC;replace Xg45:=nXg45.1;replace nXg45:=nXg45.2;replace nXg47:=opX Xg47 nXg47 hK hC;replace Xg47:=nXg47.1;replace nXg47:=nXg47.2;replace nXg127:=opX Xg127 nXg127 hK hC;replace Xg127:=nXg127.1;replace nXg127:=nXg127.2;replace nXg167:=opX Xg167 nXg167 hK hC;replace Xg167:=nXg167.1;replace nXg167:=nXg167.2;replace nXg172:=opX Xg172 nXg172 hK hC;replace Xg172:=nXg172.1;replace nXg172:=nXg172.2;replace A:=A.op S hK hC;clear S hK hC;refine⟨_,rfl,⟨Xg47,Xg45⟩,?_⟩;refine z 31 113 (.bool true) ?_
    refine z 32 114 (.bool true) ?_
    refine z 33 115 (pg g0) ?_
    refine zc 34 116 34 #[pg g0,.int .u64 20,.int .u64 16] (SxE.cast (E:=kE5) (bU A.sx (by decide) (by omega) (by omega)) rfl (congrArg (Value.int .u64) gO.2)) ?_
    rintro _ v185 ⟨rfl,K184,S,hK,hC⟩;replace BB:=aD BB hC (fun b hb=>Nat.le_trans hwB (A.sx.kb b hb));replace nXg45:=opX Xg45 nXg45 hK hC;replace Xg45:=nXg45.1;replace nXg45:=nXg45.2;replace nXg47:=opX Xg47 nXg47 hK hC;replace Xg47:=nXg47.1;replace nXg47:=nXg47.2;replace nXg127:=opX Xg127 nXg127 hK hC;replace Xg127:=nXg127.1;replace nXg127:=nXg127.2;replace nXg167:=opX Xg167 nXg167 hK hC;replace Xg167:=nXg167.1;replace nXg167:=nXg167.2;replace nXg172:=opX Xg172 nXg172 hK hC;replace Xg172:=nXg172.1;replace nXg172:=nXg172.2;replace A:=A.op S hK hC;clear S hK hC;refine⟨_,rfl,⟨Xg47,Xg45⟩,?_⟩;refine z 35 117 (.bool true) ?_
    refine z 36 118 (.bool true) ?_
    refine z 37 0 (.bool true) ?_
    refine bg (ab ?_);clear Xg45;clear Xg47;clear Xg127;clear Xg167;clear Xg172;refine aE [(0,.bool true)] (by kernel_rfl) ?_
    refine aI (aH (.bool true) (rs1 0 (by kernel_rfl) (by kernel_rfl)) ?_);exact⟨rfl,BB⟩
   have lXg45:=Xg45.lt;have lXg47:=Xg47.lt;have lXg127:=Xg127.lt;have lXg167:=Xg167.lt;refine zaa 18 100 [.int .u64 7,.int .i64 12,.int .u64 8,.int .i64 13] 64 (sg 2) ?_ ?_
   ·intro v186 g187 Xg187 hg187 B;have yg187:=Nat.le_trans BB.size hg187;have zg187:=Nat.le_trans A.size hg187;have nXg187:=A.new hg187;replace BB:=ai BB B;replace A:=A.keep B;replace Xg45:=Xg45.keep B;replace Xg47:=Xg47.keep B;replace Xg127:=Xg127.keep B;replace Xg167:=Xg167.keep B;clear B;refine⟨⟨Xg47,Xg45⟩,?_⟩;have lgn97:=A.sx.sa.lt A.sx.sa.top;refine zc 15 97 33 #[pg g0,.int .u64 16] (fD.cast (eY (E:=kE4) A.sx (by decide) jc (by omega) (by omega)) pC) ?_
    rintro _ v188 ⟨vc,n97,rfl,Uc,S,qn97a,qn97b,qn97c,C⟩;have hC:=C.mono (fun b _ (e:b=g0)=>e▸A.sx.sa.top);replace BB:=aD BB hC (fun b hb=>Nat.le_trans hwB (A.sx.kb b hb));replace nXg45:=opX Xg45 nXg45 (fun _ h=>.inl h) hC;replace Xg45:=nXg45.1;replace nXg45:=nXg45.2;replace nXg47:=opX Xg47 nXg47 (fun _ h=>.inl h) hC;replace Xg47:=nXg47.1;replace nXg47:=nXg47.2;replace nXg127:=opX Xg127 nXg127 (fun _ h=>.inl h) hC;replace Xg127:=nXg127.1;replace nXg127:=nXg127.2;replace nXg167:=opX Xg167 nXg167 (fun _ h=>.inl h) hC;replace Xg167:=nXg167.1;replace nXg167:=nXg167.2;replace nXg187:=opX Xg187 nXg187 (fun _ h=>.inl h) hC;replace Xg187:=nXg187.1;replace nXg187:=nXg187.2;replace A:=A.op S (fun _ h=>.inl h) hC;clear S hC C;refine⟨_,rfl,⟨Xg47,Xg45⟩,?_⟩;refine zc 19 101 47 #[vc,sg 2 g187] (bP Uc (dz [(7,12),(8,13)] Xg187 rfl (Nat.zero_le _) (by decide)) (by decide)) ?_
    rintro _ v189 ⟨rfl,B⟩;replace BB:=ai BB B;replace A:=A.keep B;replace Xg45:=Xg45.keep B;replace Xg47:=Xg47.keep B;replace Xg127:=Xg127.keep B;replace Xg167:=Xg167.keep B;replace Xg187:=Xg187.keep B;replace Uc:=Uc.keep B;clear B;clear Uc;refine⟨_,rfl,⟨Xg47,Xg45⟩,?_⟩;refine z 20 102 (.bool true) ?_
    refine z 21 103 (.bool true) ?_
    refine z 22 104 (pg g0) ?_
    refine zr 23 105 (.agg #[.int .u64 8,.int .i64 12]) (fun _ _=>er) ?_
    refine zc 24 106 26 #[pg g0,.agg #[.int .u64 8,.int .i64 12]] (SxF.cast (bQ (E:=kE4) A.sx (by decide) (by omega) (by omega)) gN.2 (congrArg Value.bool gN.1)) ?_
    rintro _ v194 ⟨rfl,K190,n191,N192,S,qn191,qN192,hK,hC⟩;replace BB:=aD BB hC (fun b hb=>Nat.le_trans hwB (A.sx.kb b hb));replace nXg45:=opX Xg45 nXg45 hK hC;replace Xg45:=nXg45.1;replace nXg45:=nXg45.2;replace nXg47:=opX Xg47 nXg47 hK hC;replace Xg47:=nXg47.1;replace nXg47:=nXg47.2;replace nXg127:=opX Xg127 nXg127 hK hC;replace Xg127:=nXg127.1;replace nXg127:=nXg127.2;replace nXg167:=opX Xg167 nXg167 hK hC;replace Xg167:=nXg167.1;replace nXg167:=nXg167.2;replace nXg187:=opX Xg187 nXg187 hK hC;replace Xg187:=nXg187.1;replace nXg187:=nXg187.2;replace A:=A.op S hK hC;clear S hK hC;refine⟨_,rfl,⟨Xg47,Xg45⟩,?_⟩;refine z 25 107 (.bool true) ?_
    refine z 26 108 (.bool true) ?_
    refine z 27 109 (.bool true) ?_
    refine z 28 110 (pg g0) ?_
    refine zlr 29 111 [.int .u64 8,.int .i64 13] (fun _ h=>h.1) 0 ?_
    refine zc 30 112 26 #[pg g0,.agg #[.int .u64 8,.int .i64 13]] (SxF.cast (E':=kE5) (bQ (E:=kE4) A.sx (by decide) (by omega) (by omega)) rfl (congrArg Value.bool gO.1)) ?_
    rintro _ v199 ⟨rfl,K195,n196,N197,S,qn196,qN197,hK,hC⟩;replace BB:=aD BB hC (fun b hb=>Nat.le_trans hwB (A.sx.kb b hb));replace nXg45:=opX Xg45 nXg45 hK hC;replace Xg45:=nXg45.1;replace nXg45:=nXg45.2;replace nXg47:=opX Xg47 nXg47 hK hC;replace Xg47:=nXg47.1;replace nXg47:=nXg47.2;replace nXg127:=opX Xg127 nXg127 hK hC;replace Xg127:=nXg127.1;replace nXg127:=nXg127.2;replace nXg167:=opX Xg167 nXg167 hK hC;replace Xg167:=nXg167.1;replace nXg167:=nXg167.2;replace nXg187:=opX Xg187 nXg187 hK hC;replace Xg187:=nXg187.1;replace nXg187:=nXg187.2;replace A:=A.op S hK hC;clear S hK hC;refine⟨_,rfl,⟨Xg47,Xg45⟩,?_⟩;refine z 31 113 (.bool true) ?_
    refine z 32 114 (.bool true) ?_
    refine z 33 115 (pg g0) ?_
    refine zc 34 116 34 #[pg g0,.int .u64 20,.int .u64 16] (SxE.cast (E:=kE5) (bU A.sx (by decide) (by omega) (by omega)) rfl (congrArg (Value.int .u64) gO.2)) ?_
    rintro _ v201 ⟨rfl,K200,S,hK,hC⟩;replace BB:=aD BB hC (fun b hb=>Nat.le_trans hwB (A.sx.kb b hb));replace nXg45:=opX Xg45 nXg45 hK hC;replace Xg45:=nXg45.1;replace nXg45:=nXg45.2;replace nXg47:=opX Xg47 nXg47 hK hC;replace Xg47:=nXg47.1;replace nXg47:=nXg47.2;replace nXg127:=opX Xg127 nXg127 hK hC;replace Xg127:=nXg127.1;replace nXg127:=nXg127.2;replace nXg167:=opX Xg167 nXg167 hK hC;replace Xg167:=nXg167.1;replace nXg167:=nXg167.2;replace nXg187:=opX Xg187 nXg187 hK hC;replace Xg187:=nXg187.1;replace nXg187:=nXg187.2;replace A:=A.op S hK hC;clear S hK hC;refine⟨_,rfl,⟨Xg47,Xg45⟩,?_⟩;refine z 35 117 (.bool true) ?_
    refine z 36 118 (.bool true) ?_
    refine z 37 0 (.bool true) ?_
    refine bg (ab ?_);clear Xg45;clear Xg47;clear Xg127;clear Xg167;clear Xg187;refine aE [(0,.bool true)] (by kernel_rfl) ?_
    refine aI (aH (.bool true) (rs1 0 (by kernel_rfl) (by kernel_rfl)) ?_);exact⟨rfl,BB⟩
   exact e8
  exact e8
 exact e8
end Qu
end
end Go.Proofs.YtliajmpchofiiaaGreat
