import Derived.Test.YtpoifdokmjhclaaGreatJyp
set_option maxRecDepth 100000
set_option maxHeartbeats 8000000
namespace Go.Proofs.YtpoifdokmjhclaaGreat
namespace Gn
open Go.RowKit Go.Lib Pg Lim Gl Mg
attribute [local go_sem] Oper.semAt_some
set_option linter.unusedVariables false
set_option linter.unusedSimpArgs false
section
variable {w W:World}{B b n k:Nat}{o:Oper}{ao a1 a2:Option Addr}{l A L:List Int}{ρ:Operand->Value}{x p0 p1 p2 p3 p4 p5 p6 p7 p8 p9:Int}{v:Value}
theorem nlY{w':World}{o:Nat}(N:Nl w ao n k b o l)(Y:Byt B w w')(hb:0 < n->b < B):Nl w' ao n k b o l:=⟨N.len,N.ptr,λi hi=>by
 have hc:=N.cell i hi;rw[World.cell?_of_block (w:=w) (Y.low b (hb (by rcases Nat.eq_zero_or_pos n with h | h;(rw[h] at hi;omega);exact h)) (aC hc))]
 exact hc,N.rng⟩
theorem kM{off:Nat}(N:Nl W ao n k b off A)(j f:Nat)(g:j < n * k)(hf:f=off+j)(ho:∃ p,o.op=.load 22 p/\ρ p=.pointer (some ⟨b,f,none⟩):=by exact⟨_,rfl,by kernel_rfl⟩):(execOp ρ o).run Tryz.prog W=.ok (.value (.int .u64 (nth A j))) W:=by
 obtain⟨p,h,d⟩:=ho;subst hf;have c:=N.cell j g;have:(loadVar 22 ⟨b,off+j,none⟩).run Tryz.prog W=.ok (.int .u64 (nth A j)) W:=by go_simp
 simp only[execOp,h,d];simp[Instr.loadAt,Instr.sureAddr,Result.andThen,this]
theorem GP(k:Int)(hk:0<=k/\k < 18446744073709551616)(ho:∃ u,o.op=.convert 3 22 u/\ρ u=.int .i64 k:=by exact⟨_,rfl,by kernel_rfl⟩):(execOp ρ o).run Tryz.prog w=.ok (.value (.int .u64 k)) w:=by
 obtain⟨u,h,b⟩:=ho;simp only[execOp,h,b];go_simp;rw[IntKind.wrap_u64];omega
theorem pu8(a:cy w B v L)(b:B<=w.heap.size)(hL:L.length<=1000000) :
  CP 35 #[v,.int .i64 8,.int .u64 x] w λe w'=>∃ v',e=.returned v'/\cy w' B v' (L ++ be 8 x)/\Byt B w w':=j9 (n:=8) a b (by decide) (by omega)
theorem pu4(a:cy w B v L)(b:B<=w.heap.size)(hL:L.length<=1000000) :
  CP 35 #[v,.int .i64 4,.int .u64 x] w λe w'=>∃ v',e=.returned v'/\cy w' B v' (L ++ be 4 x)/\Byt B w w':=j9 (n:=4) a b (by decide) (by omega)
theorem AO:cy w B (.slice none 0 0) []:=⟨by simp,.inl ⟨rfl,rfl⟩⟩
theorem app_ml{k:Nat}{u:Value}(g:cy w B v L)(n:cy w k u l)(ho:aJ l)(j:l.length=80)(p:B≤w.heap.size)(hL:L.length≤1000000) :
    ∃ v' w',(Builtin.append_ #[29,29] 29 #[v,u]).run Tryz.prog w=.ok v' w'∧cy w' B v' (L ++ l)∧Byt B w w':=by
  obtain⟨i0,hi,d,f,a⟩:= info_parts gT;obtain⟨b,i,c,rfl,-,A⟩:= n.bya ho;obtain⟨o,y,r,t,s,h⟩:= A.ex
  cases i with
  | none => rcases h.loc with e | e
            · subst e;simp at j
            · cases e
  | some x =>
    have H:=run_append_own (P:=Tryz.prog) w B 29 29 5 i0 (.int .u8 0) 1 1 cJ hi d f a rfl (by decide) v L.length (L.map (Value.int .u8)) g x l.length c (l.map (Value.int .u8)) (by rw[List.length_map,Nat.mul_one]) (Gs h) (ints_oneCell _ _) (by unfold maxLen;omega) (by omega) p;obtain⟨v',w',g1,m,q,-⟩:= H;exact⟨v',w',g1,xL m rfl,Byt.grown g q⟩
theorem Gy:CP 36 #[.agg #[.int .u64 p0,.int .u64 p1,.int .u64 p2,.int .u64 p3,.int .u64 p4,.int .u64 p5,.int .u64 p6,.int .u64 p7,.int .u64 p8,.int .u64 p9]] w λe w'=>∃ v,e=.returned v/\cy w' w.heap.size v (w8 [p0,p1,p2,p3,p4,p5,p6,p7,p8,p9])/\BW w w':=by
 refine Rc.uR.mono ?_
 rintro e w' ⟨v,rfl,M,B⟩;refine⟨v,rfl,?_,B⟩
 have h:Rc.thr (Rc.pnx (λo=>([p0,p1,p2,p3,p4,p5,p6,p7,p8,p9]:List Int).getD o 0)) [(0,0),(0,1),(0,2),(0,3),(0,4),(0,5),(0,6),(0,7),(0,8),(0,9)] []=w8 [p0,p1,p2,p3,p4,p5,p6,p7,p8,p9]:=by
  simp[Rc.thr,Rc.pnx,Rc.gZ,w8]
 rw[<- h];exact M
theorem zn{na c1 b1 p nv c2 k g:Nat}{V:List Int}(c:Nl w a1 na 2 b1 p A)(b:Nl w a2 nv 3 k g V)(h1:na<=1000)(h2:nv<=1000):CP 12 #[.agg #[iU p0,iU p1,iU p2,iU p3,iU p4,iU p5,iU p6,iU p7,iU p8,iU p9,.slice a1 na c1,.slice a2 nv c2]] w λe w'=>∃ v,e=.returned v/\cy w' w.heap.size v (bG ⟨[p0,p1,p2,p3,p4,p5,p6,p7,p8,p9],A,V⟩ na nv)/\BW w w':=by
 have d:=Below.refl w.heap.size w
 have o:0 < na->b1 < w.heap.size:=λh=>c.lt h (by decide)
 have m:0 < nv->k < w.heap.size:=λh=>b.lt h (by decide)
 have hA:=c.len;have O:=b.len;refine af (n:=76) Tryz.func12 rfl ?_
 refine sr<|ta 1 [iU p0,iU p1,iU p2,iU p3,iU p4,iU p5,iU p6,iU p7,iU p8,iU p9,.slice a1 na c1,.slice a2 nv c2] 28 (pg) ?_
 intro v1 j a Q B;have zg2:=Nat.le_trans d.size Q;have d:=ae d B;have c:=c.keep B;have b:=b.keep B;refine tz 1<|nx<|tc 6 35 #[zS,iI 4,iU 1196183089] (pu4 (x:=1196183089) AO d.size (by (try simp only[List.length_append,ax,bW,List.length_cons,List.length_nil,List.length_take,c.len,b.len]);omega)) ?_
 rintro _ v4 ⟨X,rfl,N,Y⟩;have d:=Byt.below Y d (Nat.le_refl _) (Nat.le_refl _);have c:=nlY c Y o;have b:=nlY b Y m;have a:=Blk.byt a Y (by decide);refine⟨_,rfl,tz 1<|nx<|tz 2<|tlr 9 [iU p0,iU p1,iU p2,iU p3,iU p4,iU p5,iU p6,iU p7,iU p8,iU p9] a 0<|tc 10 36 #[.agg #[iU p0,iU p1,iU p2,iU p3,iU p4,iU p5,iU p6,iU p7,iU p8,iU p9]] (Gy) ?_⟩;rintro _ v6 ⟨Z,rfl,W,B⟩;have d:=ae d B;have c:=c.keep B;have b:=b.keep B;have a:=a.keep B;have N:=gF N B;obtain⟨F,v8,hr,T,Y⟩:=app_ml N W (pI _) (by rw[bW];rfl) d.size (by (try simp only[List.length_append,ax,bW,List.length_cons,List.length_nil,List.length_take,c.len,b.len]);omega);refine⟨_,rfl,tw 11 F _ (pX hr) ?_⟩;have d:=Byt.below Y d (Nat.le_refl _) (Nat.le_refl _);have c:=nlY c Y o;have b:=nlY b Y m;have a:=Blk.byt a Y (by decide);refine tz 1<|nx<|tz 2<|tl 14 (.slice a1 na c1) a 10<|tz 1<|tr 16 (iU ((na:Nat):Int)) (GP ((na:Nat):Int) ⟨by omega,by omega⟩)<|tc 17 35 #[F,iI 4,iU ((na:Nat):Int)] (pu4 (x:=((na:Nat):Int)) T d.size (by (try simp only[List.length_append,ax,bW,List.length_cons,List.length_nil,List.length_take,c.len,b.len]);omega)) ?_
 rintro _ v10 ⟨D,rfl,m9,Y⟩;have d:=Byt.below Y d (Nat.le_refl _) (Nat.le_refl _);have c:=nlY c Y o;have b:=nlY b Y m;have a:=Blk.byt a Y (by decide);refine⟨_,rfl,tz 1<|nt<|aA [(1,pg j),(2,zS),(3,D)]<|ag<|sr<|tz 1<|nt<|aB<|bI (λs=>na - s.2) (fun(s:Value × Nat)=>[(1,pg j),(3,s.1),(4,iI ((s.2:Nat):Int))]) (λs w'=>s.2<=na/\cy w' w.heap.size s.1 (([]:List Int) ++ be 4 1196183089 ++ w8 [p0,p1,p2,p3,p4,p5,p6,p7,p8,p9] ++ be 4 ((na:Nat):Int) ++ w8 (A.take (s.2 * 2)))/\Blk w' j [iU p0,iU p1,iU p2,iU p3,iU p4,iU p5,iU p6,iU p7,iU p8,iU p9,.slice a1 na c1,.slice a2 nv c2] 28/\Nl w' a1 na 2 b1 p A/\Nl w' a2 nv 3 k g V/\BW w w') ((D,0):Value × Nat) ⟨Nat.zero_le _,by rw[Nat.zero_mul,List.take_zero];show cy _ _ _ (_ ++ []);rw[List.append_nil];exact m9,a,c,b,d⟩ (by kernel_rfl) ?_⟩;rintro⟨t,i⟩ v11 ⟨hi,M,a,c,b,d⟩;dsimp only at hi M;have G:=a.lt;refine ag<|sr<|tz 2<|tl 20 (.slice a1 na c1) a 10<|tz 1 ?_
 by_cases ci:(i:Int) < ((na:Nat):Int)
 ·have f:i < na:=by omega
  refine tq 22 (.bool (decide ((i:Int) < ((na:Nat):Int)))) (bT) (congrArg Value.bool (decide_eq_true ci))<|nt<|aL<|aT<|aj<|ag<|aB ?_
  have d:=d.drew;have c:=c.keep (Below.refl _ _).drew;have b:=b.keep (Below.refl _ _).drew;have a:=a.drew;have M:=gF M (Below.refl _ _).drew;refine dx (λw'=>Blk w' j [iU p0,iU p1,iU p2,iU p3,iU p4,iU p5,iU p6,iU p7,iU p8,iU p9,.slice a1 na c1,.slice a2 nv c2] 28/\Nl w' a1 na 2 b1 p A) (λ_=>false) ⟨a,c⟩ ?_
  refine z 0 25 (t)<|z 1 26 (pq j 10)<|zl 2 27 (.slice a1 na c1) (λ_ h=>h.1) 10<|z 3 28 (iI (i:Int))<|zr 4 29 (pq b1 (p+i * 2)) (λ_ _=>ep 2 b1 p na c1 i f c.ptr)<|z 5 30 (pq b1 (p+i * 2))<|zr 6 31 (iU (nth A (i * 2))) (λ_ h=>kM h.2 (i * 2) (p+i * 2) (by omega) (by omega))<|z 8 33 (pq j 10)<|zl 9 34 (.slice a1 na c1) (λ_ h=>h.1) 10<|z 10 35 (iI (i:Int))<|zr 11 36 (pq b1 (p+i * 2)) (λ_ _=>ep 2 b1 p na c1 i f c.ptr)<|z 12 37 (pq b1 (p+i * 2+1))<|zr 13 38 (iU (nth A (i * 2+1))) (λ_ h=>kM h.2 (i * 2+1) (p+i * 2+1) (by omega) (by omega))<|zc 7 32 35 #[t,iI 8,iU (nth A (i * 2))] (pu8 (x:=(nth A (i * 2))) M d.size (by (try simp only[List.length_append,ax,bW,List.length_cons,List.length_nil,List.length_take,c.len,b.len]);omega)) ?_
  rintro _ R ⟨u,rfl,I,Y⟩;have d:=Byt.below Y d (Nat.le_refl _) (Nat.le_refl _);have c:=nlY c Y o;have b:=nlY b Y m;have a:=Blk.byt a Y (by decide);refine⟨_,rfl,⟨a,c⟩,zc 14 39 35 #[u,iI 8,iU (nth A (i * 2+1))] (pu8 (x:=(nth A (i * 2+1))) I d.size (by (try simp only[List.length_append,ax,bW,List.length_cons,List.length_nil,List.length_take,c.len,b.len]);omega)) ?_⟩;rintro _ S ⟨q,rfl,L,Y⟩;have d:=Byt.below Y d (Nat.le_refl _) (Nat.le_refl _);have c:=nlY c Y o;have b:=nlY b Y m;have a:=Blk.byt a Y (by decide);exact⟨_,rfl,⟨a,c⟩,z 15 3 (q)<|aS<|cX<|aj<|aA [(1,pg j),(3,q),(4,iI (i:Int)),(18,iI (i:Int)),(19,pq j 10),(20,.slice a1 na c1),(21,iI ((na:Nat):Int)),(22,bT),(25,t),(26,pq j 10),(27,.slice a1 na c1),(28,iI (i:Int)),(29,pq b1 (p+i * 2)),(30,pq b1 (p+i * 2)),(31,iU (nth A (i * 2))),(32,u),(33,pq j 10),(34,.slice a1 na c1),(35,iI (i:Int)),(36,pq b1 (p+i * 2)),(37,pq b1 (p+i * 2+1)),(38,iU (nth A (i * 2+1))),(39,q)]<|aN<|tz 1<|tq 24 (iI (IntKind.i64.wrap ((i:Int)+1))) (iI ((i:Int)+1)) (wi (by omega))<|tz 1<|aO<|bH ((q,i+1):Value × Nat) ⟨f,by show cy _ _ _ _;rw[<- Cn hA f];simpa only [w8,List.append_nil,List.append_assoc] using L,a,c,b,d⟩ (by kernel_rfl) (hm:=by show na - (i+1) < na - i;omega)⟩
 refine tq 22 (.bool (decide ((i:Int) < ((na:Nat):Int)))) (bF) (congrArg Value.bool (decide_eq_false ci))<|nt<|aX<|bQ<|bC<|bC<|dg<|aj<|ag ?_
 obtain rfl:na=i:=by omega
 rw[List.take_of_length_le (l:=A) (by omega)] at M;have hA:=c.len;have O:=b.len;refine aN<|tz 2<|tl 42 (.slice a2 nv c2) a 11<|tz 1<|tr 44 (iU ((nv:Nat):Int)) (GP ((nv:Nat):Int) ⟨by omega,by omega⟩)<|tc 45 35 #[t,iI 4,iU ((nv:Nat):Int)] (pu4 (x:=((nv:Nat):Int)) M d.size (by (try simp only[List.length_append,ax,bW,List.length_cons,List.length_nil,List.length_take,c.len,b.len]);omega)) ?_
 rintro _ aa ⟨E,rfl,H,Y⟩;have d:=Byt.below Y d (Nat.le_refl _) (Nat.le_refl _);have c:=nlY c Y o;have b:=nlY b Y m;have a:=Blk.byt a Y (by decide);refine⟨_,rfl,tz 1<|nt<|ag<|sr<|tz 1<|nt<|aB<|bI (λs=>nv - s.2) (fun(s:Value × Nat)=>[(1,pg j),(3,s.1),(5,iI ((s.2:Nat):Int))]) (λs w'=>s.2<=nv/\cy w' w.heap.size s.1 (([]:List Int) ++ be 4 1196183089 ++ w8 [p0,p1,p2,p3,p4,p5,p6,p7,p8,p9] ++ be 4 ((na:Nat):Int) ++ w8 A ++ be 4 ((nv:Nat):Int) ++ w8 (V.take (s.2 * 3)))/\Blk w' j [iU p0,iU p1,iU p2,iU p3,iU p4,iU p5,iU p6,iU p7,iU p8,iU p9,.slice a1 na c1,.slice a2 nv c2] 28/\Nl w' a1 na 2 b1 p A/\Nl w' a2 nv 3 k g V/\BW w w') ((E,0):Value × Nat) ⟨Nat.zero_le _,by rw[Nat.zero_mul,List.take_zero];show cy _ _ _ (_ ++ []);rw[List.append_nil];exact H,a,c,b,d⟩ (by kernel_rfl) ?_⟩;rintro⟨t,i⟩ v18 ⟨hi,M,a,c,b,d⟩;dsimp only at hi M;have G:=a.lt;refine ag<|sr<|tz 2<|tl 48 (.slice a2 nv c2) a 11<|tz 1 ?_
 by_cases ci:(i:Int) < ((nv:Nat):Int)
 ·have f:i < nv:=by omega
  refine tq 50 (.bool (decide ((i:Int) < ((nv:Nat):Int)))) (bT) (congrArg Value.bool (decide_eq_true ci))<|nt<|aL<|aT<|aj<|ag<|aB ?_
  have d:=d.drew;have c:=c.keep (Below.refl _ _).drew;have b:=b.keep (Below.refl _ _).drew;have a:=a.drew;have M:=gF M (Below.refl _ _).drew;refine dx (λw'=>Blk w' j [iU p0,iU p1,iU p2,iU p3,iU p4,iU p5,iU p6,iU p7,iU p8,iU p9,.slice a1 na c1,.slice a2 nv c2] 28/\Nl w' a2 nv 3 k g V) (λ_=>false) ⟨a,b⟩ ?_
  refine z 0 53 (t)<|z 1 54 (pq j 11)<|zl 2 55 (.slice a2 nv c2) (λ_ h=>h.1) 11<|z 3 56 (iI (i:Int))<|zr 4 57 (pq k (g+i * 3)) (λ_ _=>ep 3 k g nv c2 i f b.ptr)<|z 5 58 (pq k (g+i * 3))<|zr 6 59 (iU (nth V (i * 3))) (λ_ h=>kM h.2 (i * 3) (g+i * 3) (by omega) (by omega))<|z 8 61 (pq j 11)<|zl 9 62 (.slice a2 nv c2) (λ_ h=>h.1) 11<|z 10 63 (iI (i:Int))<|zr 11 64 (pq k (g+i * 3)) (λ_ _=>ep 3 k g nv c2 i f b.ptr)<|z 12 65 (pq k (g+i * 3+1))<|zr 13 66 (iU (nth V (i * 3+1))) (λ_ h=>kM h.2 (i * 3+1) (g+i * 3+1) (by omega) (by omega))<|z 15 68 (pq j 11)<|zl 16 69 (.slice a2 nv c2) (λ_ h=>h.1) 11<|z 17 70 (iI (i:Int))<|zr 18 71 (pq k (g+i * 3)) (λ_ _=>ep 3 k g nv c2 i f b.ptr)<|z 19 72 (pq k (g+i * 3+2))<|zr 20 73 (iU (nth V (i * 3+2))) (λ_ h=>kM h.2 (i * 3+2) (g+i * 3+2) (by omega) (by omega))<|zc 7 60 35 #[t,iI 8,iU (nth V (i * 3))] (pu8 (x:=(nth V (i * 3))) M d.size (by (try simp only[List.length_append,ax,bW,List.length_cons,List.length_nil,List.length_take,c.len,b.len]);omega)) ?_
  rintro _ v20 ⟨y,rfl,P,Y⟩;have d:=Byt.below Y d (Nat.le_refl _) (Nat.le_refl _);have c:=nlY c Y o;have b:=nlY b Y m;have a:=Blk.byt a Y (by decide);refine⟨_,rfl,⟨a,b⟩,zc 14 67 35 #[y,iI 8,iU (nth V (i * 3+1))] (pu8 (x:=(nth V (i * 3+1))) P d.size (by (try simp only[List.length_append,ax,bW,List.length_cons,List.length_nil,List.length_take,c.len,b.len]);omega)) ?_⟩;rintro _ v22 ⟨C,rfl,K,Y⟩;have d:=Byt.below Y d (Nat.le_refl _) (Nat.le_refl _);have c:=nlY c Y o;have b:=nlY b Y m;have a:=Blk.byt a Y (by decide);refine⟨_,rfl,⟨a,b⟩,zc 21 74 35 #[C,iI 8,iU (nth V (i * 3+2))] (pu8 (x:=(nth V (i * 3+2))) K d.size (by (try simp only[List.length_append,ax,bW,List.length_cons,List.length_nil,List.length_take,c.len,b.len]);omega)) ?_⟩;rintro _ U ⟨r,rfl,J,Y⟩;have d:=Byt.below Y d (Nat.le_refl _) (Nat.le_refl _);have c:=nlY c Y o;have b:=nlY b Y m;have a:=Blk.byt a Y (by decide);exact⟨_,rfl,⟨a,b⟩,z 22 3 (r)<|aS<|cX<|aj<|aA [(1,pg j),(3,r),(5,iI (i:Int)),(46,iI (i:Int)),(47,pq j 11),(48,.slice a2 nv c2),(49,iI ((nv:Nat):Int)),(50,bT),(53,t),(54,pq j 11),(55,.slice a2 nv c2),(56,iI (i:Int)),(57,pq k (g+i * 3)),(58,pq k (g+i * 3)),(59,iU (nth V (i * 3))),(60,y),(61,pq j 11),(62,.slice a2 nv c2),(63,iI (i:Int)),(64,pq k (g+i * 3)),(65,pq k (g+i * 3+1)),(66,iU (nth V (i * 3+1))),(67,C),(68,pq j 11),(69,.slice a2 nv c2),(70,iI (i:Int)),(71,pq k (g+i * 3)),(72,pq k (g+i * 3+2)),(73,iU (nth V (i * 3+2))),(74,r)]<|aN<|tz 1<|tq 52 (iI (IntKind.i64.wrap ((i:Int)+1))) (iI ((i:Int)+1)) (wi (by omega))<|tz 1<|aO<|bH ((r,i+1):Value × Nat) ⟨f,by show cy _ _ _ _;rw[<- DB O f];simpa only [w8,List.append_nil,List.append_assoc] using J,a,c,b,d⟩ (by kernel_rfl) (hm:=by show nv - (i+1) < nv - i;omega)⟩
 refine tq 50 (.bool (decide ((i:Int) < ((nv:Nat):Int)))) (bF) (congrArg Value.bool (decide_eq_false ci))<|nt<|aX<|bQ<|bC<|bC<|dg<|aj<|ag ?_
 obtain rfl:nv=i:=by omega
 rw[List.take_of_length_le (l:=V) (by omega)] at M;have hA:=c.len;have O:=b.len;refine aN<|tz 2<|nr<|ah (t) (rs1 2) ?_
 refine⟨t,rfl,?_,d⟩;rw[show bG ⟨[p0,p1,p2,p3,p4,p5,p6,p7,p8,p9],A,V⟩ _ _=(([]:List Int) ++ be 4 1196183089 ++ w8 [p0,p1,p2,p3,p4,p5,p6,p7,p8,p9] ++ be 4 ((na:Nat):Int) ++ w8 A ++ be 4 ((nv:Nat):Int) ++ w8 V) from by simp only[bG,mk0,List.nil_append,List.append_assoc]];exact M
end
end Gn
end Go.Proofs.YtpoifdokmjhclaaGreat
