import Derived.Test.YtpoifdokmjhclaaGreatJys
set_option maxRecDepth 100000
set_option maxHeartbeats 8000000
namespace Go.Proofs.YtpoifdokmjhclaaGreat
namespace Bk
open Go.RowKit Go.Lib Pg Lim Gl Kv
attribute [local go_sem] Oper.semAt_some
set_option linter.unusedSimpArgs false
set_option linter.unusedVariables false
section
variable {w:World}{id x y k:Int}{v:Value}{l:List Int}{B g n N:Nat}{K D:Nat->Prop}{E:aD}{W:List aD}{ρ:Operand->Value}{b:Bool}
theorem ake(id:Int):Ky.mkE 4 id 0=false:=by
 unfold Ky.mkE;rw[show (Ky.frm 4).1=9 from rfl];simp
theorem pZ(c:0<=id/\id < 18446744073709551616):CP 40 #[iU id] w λe w'=>∃ v,e=.returned v/\ByU w' v (ak id)/\BW w w':=by
 have b:=Below.refl w.heap.size w;refine af (n:=12) Tryz.func40 rfl ?_
 refine sr<|tz 1<|nx<|tz 2<|tc 8 72 #[.agg #[.int .i64 4,.int .u64 id,.int .u64 0]] (Ks.mk_g c (ake id)) ?_
 rintro _ v1 ⟨a,rfl,d,B⟩;have b:=ae b B;refine⟨_,rfl,tz 5<|nx<|tz 2<|nt<|aA [(2,a)]<|bB<|ah (a) (rs1 2) ?_⟩;exact⟨_,rfl,ByU.of d,b⟩
theorem CG(h:ByU w v l)(d:l.length<=1000000000):CP 41 #[v] w λe w'=>e=.returned (.tuple #[.agg #[.int .u64 (jV l),.int .u64 (qn l)],.int .i64 (Rc.dU (Rc.eI l))])/\BW w w':=by
 obtain⟨b,f,c,rfl,a⟩:=bya h.byt;exact Rc.zt a d
theorem BR:CP 132 #[.agg #[.int .u64 x,.int .u64 y]] w λe w'=>∃ v,e=.returned v/\ByU w' v (pv x y)/\BW w w':=by
 refine Rc.mE.mono ?_
 rintro e w' ⟨b,n,rfl,hn,X,hb,B⟩;exact⟨_,rfl,gQ X (pv_oct x y) hn (Nat.le_trans (Bm x y) (by decide)),B⟩
theorem oF{kv vv:Value}(h:Sx B w K g E W n N)(hk:ByU w kv (ak id))(hv:ByU w vv (pv x y))(hn:n<=4000000000000000000)(a:N+2<=100000000) :
  CP 86 #[pg g,kv,vv] w (SxE B w K g (put E (ak id) (pv x y)) W (n+1) (N+2) (.int .i64 0)):=by
 have u:=xset h hk hv hn a;rw[set_ok,if_pos rfl] at u;exact u
theorem Sx.lG(h:Sx B w K g E W n N)(k:List Int):((Kv.look E k).getD []).length<=1000000000:=by
 cases e:Kv.look E k with
 | none=>simp
 | some v=>exact(h.sa.small _ (Kv.jO e)).2
theorem wJ{err:Int}(ho:aJ l):0<=rdV 0 (cA 8 l) err/\rdV 0 (cA 8 l) err < 18446744073709551616:=by
 unfold rdV cA;split
 ·split
  ·exact⟨Int.le_refl _,by decide⟩
  rename_i a;split at a
  ·cases a;have:=bL (l:=l.take 8) (λx hx=>ho x (List.mem_of_mem_take hx));rw[List.length_take,Nat.min_eq_left (by assumption)] at this;exact this
  cases a
 exact⟨Int.le_refl _,by decide⟩
theorem xR(ho:Oct l):(0<=jV l/\jV l < 18446744073709551616)/\(0<=qn l/\qn l < 18446744073709551616):=by
 have a:aJ (rdL (cA 8 l) 0 l):=by
  unfold rdL;split
  ·split
   ·exact ho
   exact λx hx=>ho x (List.mem_of_mem_drop hx)
  exact ho
 have e:Rc.eI l=Rc.rnx 0 1 (Rc.rnx 0 0 (0,l,λ_=>0)):=rfl;unfold jV qn Rc.aP;rw[e];split
 ·exact⟨wJ (err:=0) ho,wJ a⟩
 exact⟨⟨Int.le_refl _,by decide⟩,Int.le_refl _,by decide⟩
theorem SA.octv(h:SA w K D g E W n N):∀ x∈E,Oct x.2:=by
 obtain⟨F,V,m,Q,d,T,i,hX,rfl,f⟩:=h.open;obtain⟨L,rfl,A,O,S,k,r⟩:=hX.map.ex;intro x hx;rw[dj] at hx;obtain⟨e,he,rfl⟩:=List.mem_map.1 hx;obtain⟨es,b,a⟩:=List.mem_flatten.1 he;obtain⟨p,c,rfl⟩:=List.mem_map.1 b;exact((A.cM p c).1.fa e a).v.oct
theorem Sx.oct(h:Sx B w K g E W n N)(k:List Int):Oct ((Kv.look E k).getD []):=by
 cases e:Kv.look E k with
 | none=>exact λx hx=>by simp at hx
 | some v=>exact SA.octv h.sa _ (Kv.jO e)
theorem Sx.qp(h:Sx B w K g E W n N)(id:Int):0<=cI E id/\cI E id < 18446744073709551616:=(xR (h.oct _)).1
theorem GK{o:Oper}(hb:decide (x=0/\y=0)=b)(ho:∃ u v,o.op=.binOp .eql 50 u v 50/\ρ u=.agg #[.int .u64 x,.int .u64 y]/\ρ v=.agg #[.int .u64 0,.int .u64 0]:=by exact⟨_,_,rfl,by kernel_rfl,by kernel_rfl⟩):(execOp ρ o).run Tryz.prog w=.ok (.value (.bool b)) w:=by
 obtain⟨u,v,h,d,c⟩:=ho;subst hb;simp only[execOp,h,d,c];go_simp
 repeat' split
 all_goals simp_all
theorem ft(d:0<=id/\id < 18446744073709551616)(hb:decide (isA id)=b):cB 90 #[iU id] w (.bool b):=by
 have a:=Below.refl w.heap.size w;refine af (n:=13) Tryz.func90 rfl ?_
 refine sr<|tz 1<|nx<|tz 1 ?_
 by_cases c1:(1:Int)<=id
 ·refine tq 4 (.bool (decide ((1:Int)<=id))) (bT) (congrArg Value.bool (decide_eq_true c1))<|tz 2 ?_
  by_cases c2:(id:Int)<=4
  ·refine tq 7 (.bool (decide ((id:Int)<=4))) (bT) (congrArg Value.bool (decide_eq_true c2))<|tz 2<|tn 10<|tn 11<|tz 2<|nt<|aA [(2,bT)]<|bB<|ah (bT) (rs1 2) ?_
   refine⟨?_,a⟩;rw[<- hb];rw[decide_eq_true (by unfold isA;omega)]
  refine tq 7 (.bool (decide ((id:Int)<=4))) (bF) (congrArg Value.bool (decide_eq_false c2))<|tz 3 ?_
  by_cases c3:(16:Int)<=id
  ·refine tq 11 (.bool (decide ((16:Int)<=id))) (bT) (congrArg Value.bool (decide_eq_true c3))<|tz 2<|nt<|aA [(2,bT)]<|bB<|ah (bT) (rs1 2) ?_
   refine⟨?_,a⟩;rw[<- hb];rw[decide_eq_true (by unfold isA;omega)]
  refine tq 11 (.bool (decide ((16:Int)<=id))) (bF) (congrArg Value.bool (decide_eq_false c3))<|tz 2<|nt<|aA [(2,bF)]<|bB<|ah (bF) (rs1 2) ?_
  refine⟨?_,a⟩;rw[<- hb];rw[decide_eq_false (by unfold isA;omega)]
 refine tq 4 (.bool (decide ((1:Int)<=id))) (bF) (congrArg Value.bool (decide_eq_false c1))<|tz 1<|tn 6<|tn 7<|tz 3 ?_
 by_cases c:(16:Int)<=id
 ·refine tq 11 (.bool (decide ((16:Int)<=id))) (bT) (congrArg Value.bool (decide_eq_true c))<|tz 2<|nt<|aA [(2,bT)]<|bB<|ah (bT) (rs1 2) ?_
  refine⟨?_,a⟩;rw[<- hb];rw[decide_eq_true (by unfold isA;omega)]
 refine tq 11 (.bool (decide ((16:Int)<=id))) (bF) (congrArg Value.bool (decide_eq_false c))<|tz 2<|nt<|aA [(2,bF)]<|bB<|ah (bF) (rs1 2) ?_
 refine⟨?_,a⟩;rw[<- hb];rw[decide_eq_false (by unfold isA;omega)]
theorem iJ(hx:0<=x/\x < 18446744073709551616)(hk:0<=k/\k < 18446744073709551616)(hb:decide (fI x k)=b):cB 91 #[.agg #[iU x,iU y],iU k] w (.bool b):=by
 have a:=Below.refl w.heap.size w;refine af (n:=15) Tryz.func91 rfl ?_
 refine sr<|ta 2 [iU x,iU y] 50 (pg) ?_
 intro v1 f c e B;have a:=ae a B;refine tz 1<|nx<|tz 1<|tl 6 (iU x) c 0 ?_
 by_cases c3:(x:Int)<=1000000000000000000
 ·refine tq 7 (.bool (decide ((x:Int)<=1000000000000000000))) (bT) (congrArg Value.bool (decide_eq_true c3))<|tz 3<|tl 11 (iU x) c 0<|tq 12 (iU (IntKind.u64.wrap (1000000000000000000 - x))) (iU (1000000000000000000 - x)) (wu (by omega)) ?_
  by_cases d:(k:Int)<=1000000000000000000 - x
  ·refine tq 13 (.bool (decide ((k:Int)<=1000000000000000000 - x))) (bT) (congrArg Value.bool (decide_eq_true d))<|tz 2<|nt<|aA [(4,bT)]<|bB<|ah (bT) (rs1 4) ?_
   refine⟨?_,a⟩;rw[<- hb];rw[decide_eq_true (by unfold fI;omega)]
  refine tq 13 (.bool (decide ((k:Int)<=1000000000000000000 - x))) (bF) (congrArg Value.bool (decide_eq_false d))<|tz 2<|nt<|aA [(4,bF)]<|bB<|ah (bF) (rs1 4) ?_
  refine⟨?_,a⟩;rw[<- hb];rw[decide_eq_false (by unfold fI;omega)]
 refine tq 7 (.bool (decide ((x:Int)<=1000000000000000000))) (bF) (congrArg Value.bool (decide_eq_false c3))<|tz 1<|tn 9<|tn 10<|tn 11<|tn 12<|tn 13<|tz 2<|nt<|aA [(4,bF)]<|bB<|ah (bF) (rs1 4) ?_
 refine⟨?_,a⟩;rw[<- hb];rw[decide_eq_false (by unfold fI;omega)]
theorem fR(h:Sx B w K g E W n N)(l:0<=id/\id < 18446744073709551616)(hn:n+5<=4000000000000000000)(z:N+5<=100000000):CP 15 #[pg g,iU id] w (SxE B w K g E W (n+1) N (.agg #[iU (cI E id),iU (ez E id)])):=by
 have A:=h.at
 refine af (n:=22) Tryz.func15 rfl ?_
 refine sr<|ta 4 cl5 50 (pg) ?_
 intro v1 v a i B;have q:=Nat.le_trans A.size i;have d:=A.new i;have A:=A.keep B;refine nx<|tz 2<|tc 12 40 #[.int .u64 id] (pZ l) ?_
 rintro _ D ⟨o,rfl,p,B⟩;have A:=A.keep B;have a:=a.keep B;refine⟨_,rfl,tc 13 39 #[pg g,o] (Cf A.sx p) ?_⟩;rintro _ y ⟨j,rfl,k,S,m⟩;have a:=a.chg m d;have p:=A.byu p m;have A:=A.op S (λ_ h=>.inl h) m;refine⟨_,rfl,tz 5<|nt<|aA [(4,pg v),(5,j)]<|sr<|tz 1<|tc 18 41 #[j] (CG k (A.sx.lG _)) ?_⟩;rintro _ x ⟨rfl,B⟩;have A:=A.keep B;have a:=a.keep B;have k:=cO k B;refine⟨_,rfl,tz 3 ?_⟩;have r:=a.lt;refine ta 7 cl5 50 (pg) ?_
 intro v10 t b c B;have f:=Nat.le_trans A.size c;have e:=A.new c;have A:=A.keep B;have a:=a.keep B;refine tsw b [.int .u64 (jV ((Kv.look E (ak id)).getD [])),.int .u64 (qn ((Kv.look E (ak id)).getD []))] ?_
 intro u Y C;have A:=At.cell A b C f e (by decide);have a:=a.chg C (by omega);have b:=Y;refine tz 1<|nx<|tlr 21 [.int .u64 (jV ((Kv.look E (ak id)).getD [])),.int .u64 (qn ((Kv.look E (ak id)).getD []))] b 0<|tsw a [.int .u64 (jV ((Kv.look E (ak id)).getD [])),.int .u64 (qn ((Kv.look E (ak id)).getD []))] ?_
 intro s Y C;have A:=At.cell A a C q d (by decide);have b:=b.chg C (by omega);have a:=Y;refine nr<|ah (.agg #[.int .u64 (jV ((Kv.look E (ak id)).getD [])),.int .u64 (qn ((Kv.look E (ak id)).getD []))]) (rsc (T:=50) 4 (lr a 0)) ?_
 exact⟨rfl,_,A.sx,A.km,A.cc⟩
theorem gS(h:Sx B w K g E W n N)(j:0<=id/\id < 18446744073709551616)(hn:n+5<=4000000000000000000)(C:N+5<=100000000):CP 92 #[pg g,iU id,.agg #[iU x,iU y]] w (SxE B w K g (qJ E id x y) W (n+1) (N+2) (.tuple #[])):=by
 have A:=h.at
 refine af (n:=19) Tryz.func92 rfl ?_
 refine sr<|ta 5 [iU x,iU y] 50 (pg) ?_
 intro v1 u a m B;obtain⟨s,b,A⟩:=A.al m B;refine nt<|ag<|sr<|tlr 6 [iU x,iU y] a 0<|tz 1 ?_
 by_cases c3:x=0/\y=0
 ·refine tr 8 (bT) (GK (decide_eq_true c3))<|nt<|aL<|sr<|tz 2<|tc 11 40 #[iU id] (pZ j) ?_
  rintro _ v6 ⟨l,rfl,o,B⟩;have A:=A.keep B;have a:=a.keep B;refine⟨_,rfl,tc 12 131 #[pg g,l] (xdel A.sx o (by have:=AU id;omega)) ?_⟩;rintro _ t ⟨rfl,v,S,k,c⟩;obtain⟨a,b⟩:=gm a b k c;have o:=A.byu o c;have A:=A.op S k c;refine⟨_,rfl,nr<|bE<|ah (.tuple #[]) (rs0) ?_⟩;rw[show qJ E id x y=_ from if_pos c3];exact⟨rfl,_,A.sx,A.km,A.cc⟩
 refine tr 8 (bF) (GK (decide_eq_false c3))<|nt<|nk ?_
 have A:=A.drew;have a:=a.drew;refine gd1 a ?_
 refine z 0 13 (pg g)<|z 1 14 (iU id)<|zlr 3 16 [iU x,iU y] (λ_ h=>h) 0<|zc 2 15 40 #[iU id] (pZ j) ?_
 rintro _ v11 ⟨f,rfl,i,B⟩;have A:=A.keep B;have a:=a.keep B;refine⟨_,rfl,a,zc 4 17 132 #[.agg #[iU x,iU y]] (BR) ?_⟩;rintro _ q ⟨e,rfl,d,B⟩;have A:=A.keep B;have a:=a.keep B;have i:=cO i B;refine⟨_,rfl,a,zc 5 18 86 #[pg g,f,e] (oF A.sx i d (by omega) (by omega)) ?_⟩;rintro _ p ⟨rfl,r,S,k,c⟩;obtain⟨a,b⟩:=gm a b k c;have i:=A.byu i c;have d:=A.byu d c;have A:=A.op S k c;refine⟨_,rfl,a,aS<|bh (.tuple #[]) (rs0) ?_⟩;rw[show qJ E id x y=_ from if_neg c3];exact⟨rfl,_,A.sx,A.km,A.cc⟩
def gA(E:aD)(id k:Int):Int:=if ¬ isA id then 92 else if ¬ fI (cI E id) k then 91 else 0
def ja(E:aD)(id k:Int):aD:=if gA E id k=0 then qJ E id (cI E id+k) (ez E id) else E
def dG(E:aD)(a b k:Int):Int:=if ¬ isA a\/¬ isA b then 92 else if cI E a < k then 90 else if a=b then 0 else if ¬ fI (cI E b) k then 91 else 0
def eB(E:aD)(a b k:Int):aD:=if dG E a b k=0/\a≠b then qJ (qJ E a (cI E a - k) (ez E a)) b (cI E b+k) (ez E b) else E
theorem sK(h:Sx B w K g E W n N)(c:0<=id/\id < 18446744073709551616)(hk:0<=k/\k < 18446744073709551616)(hn:n+10<=4000000000000000000:=by omega)(x:N+10<=100000000:=by omega):CP 67 #[pg g,iU id,iU k] w (SxF B w K g (ja E id k) W n N (iI (gA E id k))):=by
 have A:=h.at
 refine af (n:=27) Tryz.func67 rfl ?_
 refine sr<|tz 1<|nt<|ag<|sr<|tz 1 ?_
 by_cases c1:isA id
 ·refine tc 9 90 #[iU id] (ft c (decide_eq_true c1)) ?_
  rintro _ v2 ⟨rfl,B⟩;have A:=A.keep B;refine⟨_,rfl,tz 1<|nt<|nk<|sr<|tz 2<|tc 13 15 #[pg g,iU id] (fR A.sx c (by omega) (by omega)) ?_⟩;rintro _ v4 ⟨rfl,t,S,i,f⟩;have A:=A.op S i f;refine⟨_,rfl,ta 7 cl5 50 (pg) ?_⟩;intro v l a j B;obtain⟨e,b,A⟩:=A.al j B;refine tsw a [iU (cI E id),iU (ez E id)] ?_
  intro u Y C;have A:=At.cell A a C e b (by decide);have a:=Y;refine nt<|ag<|sr<|tlr 14 [iU (cI E id),iU (ez E id)] a 0<|tz 1 ?_
  by_cases d:fI (cI E id) k
  ·refine tc 16 91 #[.agg #[iU (cI E id),iU (ez E id)],iU k] (iJ (h.qp _) hk (decide_eq_true d)) ?_
   rintro _ s ⟨rfl,B⟩;have A:=A.keep B;have a:=a.keep B;refine⟨_,rfl,tz 1<|nt<|aA [(0,pg g),(1,iU id),(2,iU k),(6,iI 0),(7,pg l),(17,bF)]<|nk<|sr<|tz 1<|tl 19 (iU (cI E id)) a 0<|tz 1<|tq 21 (iU (IntKind.u64.wrap ((cI E id)+k))) (iU ((cI E id)+k)) (wu (by have:=h.qp id;have q:=d;unfold fI at q;omega))<|tz 1<|ts a 0 (iU ((cI E id)+k)) [iU ((cI E id)+k)] [iU ((cI E id)+k),iU (ez E id)] ?_⟩;intro v10 Y C;have A:=At.cell A a C e b (by decide);have a:=Y;refine nx<|tz 2<|tlr 25 [iU ((cI E id)+k),iU (ez E id)] a 0<|tc 26 92 #[pg g,iU id,.agg #[iU ((cI E id)+k),iU (ez E id)]] (gS A.sx c (by omega) (by omega)) ?_
   rintro _ r ⟨rfl,o,S,i,f⟩;obtain⟨a,b⟩:=gm a b i f;have A:=A.op S i f;refine⟨_,rfl,nx<|tz 1<|nr<|ah (iI 0) (rs1 6) ?_⟩
   have e1:gA E id k=0:=by first | (simp[gA,c1,d];done) | (subst_vars;simp_all [gA])
   have e2:ja E id k=qJ E id ((cI E id)+k) (ez E id):=by simp[ja,e1,c1,d]
   rw[e1,e2];exact⟨rfl,_,_,_,A.sx,by omega,by omega,A.km,A.cc⟩
  refine tc 16 91 #[.agg #[iU (cI E id),iU (ez E id)],iU k] (iJ (h.qp _) hk (decide_eq_false d)) ?_
  rintro _ m ⟨rfl,B⟩;have A:=A.keep B;have a:=a.keep B;refine⟨_,rfl,tz 1<|nt<|aA [(0,pg g),(1,iU id),(2,iU k),(6,iI 0),(7,pg l),(17,bT)]<|aL<|sr<|tz 1<|nr<|bE<|ah (iI 91) (rs1 6) ?_⟩
  have e1:gA E id k=91:=by first | (simp[gA,c1,d];done) | (subst_vars;simp_all [gA])
  have e2:ja E id k=E:=by simp[ja,e1,c1,d]
  rw[e1,e2];exact⟨rfl,_,_,_,A.sx,by omega,by omega,A.km,A.cc⟩
 refine tc 9 90 #[iU id] (ft c (decide_eq_false c1)) ?_
 rintro _ p ⟨rfl,B⟩;have A:=A.keep B;refine⟨_,rfl,tz 1<|nt<|aL<|sr<|tz 1<|nr<|bE<|ah (iI 92) (rs1 6) ?_⟩
 have e1:gA E id k=92:=by first | (simp[gA,c1];done) | (subst_vars;simp_all [gA])
 have e2:ja E id k=E:=by simp[ja,e1,c1]
 rw[e1,e2];exact⟨rfl,_,_,_,A.sx,by omega,by omega,A.km,A.cc⟩
theorem nO{a b:Int}(h:Sx B w K g E W n N)(u:0<=a/\a < 18446744073709551616)(hb:0<=b/\b < 18446744073709551616)(hk:0<=k/\k < 18446744073709551616)(hn:n+10<=4000000000000000000:=by omega)(X:N+10<=100000000:=by omega):CP 142 #[pg g,iU a,iU b,iU k] w (SxF B w K g (eB E a b k) W n N (iI (dG E a b k))):=by
 have A:=h.at
 refine af (n:=54) Tryz.func142 rfl ?_
 refine sr<|tz 1<|nt<|ag<|sr<|tz 1 ?_
 by_cases c1:isA a
 ·refine tc 12 90 #[iU a] (ft u (decide_eq_true c1)) ?_
  rintro _ v2 ⟨rfl,B⟩;have A:=A.keep B;refine⟨_,rfl,tz 3 ?_⟩;by_cases c3:isA b
  ·refine tc 16 90 #[iU b] (ft hb (decide_eq_true c3)) ?_
   rintro _ v4 ⟨rfl,B⟩;have A:=A.keep B;refine⟨_,rfl,tz 2<|nt<|aA [(0,pg g),(1,iU a),(2,iU b),(3,iU k),(8,iI 0),(18,bF)]<|nk<|sr<|tz 2<|tc 21 15 #[pg g,iU a] (fR A.sx u (by omega) (by omega)) ?_⟩;rintro _ v6 ⟨rfl,V,S,o,m⟩;have A:=A.op S o m;refine⟨_,rfl,ta 9 cl5 50 (pg) ?_⟩;intro U v d x B;obtain⟨t,f,A⟩:=A.al x B;refine tsw d [iU (cI E a),iU (ez E a)] ?_
   intro T Y C;have A:=At.cell A d C t f (by decide);have d:=Y;refine nt<|ag<|sr<|tz 1<|tl 23 (iU (cI E a)) d 0<|tz 1 ?_
   by_cases i:(cI E a:Int) < k
   ·refine tq 25 (.bool (decide ((cI E a:Int) < k))) (bT) (congrArg Value.bool (decide_eq_true i))<|nt<|aL<|sr<|tz 1<|nr<|bE<|ah (iI 90) (rs1 8) ?_
    have e1:dG E a b k=90:=by first | (simp[dG,c1,i,c3];done) | (subst_vars;simp_all [dG])
    have e2:eB E a b k=E:=by simp[eB,e1,c1,i,c3]
    rw[e1,e2];exact⟨rfl,_,_,_,A.sx,by omega,by omega,A.km,A.cc⟩
   refine tq 25 (.bool (decide ((cI E a:Int) < k))) (bF) (congrArg Value.bool (decide_eq_false i))<|nt<|nk<|ag<|sr<|tz 2 ?_
   by_cases l:(a:Int)=b
   ·refine tq 28 (.bool ((a:Int) == b)) (bT) (congrArg Value.bool (beq_iff_eq.2 l))<|nt<|aL<|sr<|tz 1<|nt<|aA [(0,pg g),(1,iU a),(2,iU b),(3,iU k),(8,iI 0),(9,pg v)]<|bB<|bE<|ah (iI 0) (rs1 8) ?_
    have e1:dG E a b k=0:=by first | (simp[dG,c1,i,l,c3];done) | (subst_vars;simp_all [dG])
    have e2:eB E a b k=E:=by simp[eB,e1,c1,i,l,c3]
    rw[e1,e2];exact⟨rfl,_,_,_,A.sx,by omega,by omega,A.km,A.cc⟩
   refine tq 28 (.bool ((a:Int) == b)) (bF) (congrArg Value.bool (beq_eq_false_iff_ne.2 l))<|nt<|nk<|sr<|tz 2<|tc 31 15 #[pg g,iU b] (fR A.sx hb (by omega) (by omega)) ?_
   rintro _ z ⟨rfl,D,S,o,m⟩;obtain⟨d,f⟩:=gm d f o m;have A:=A.op S o m;have y:=d.lt;refine⟨_,rfl,ta 10 cl5 50 (pg) ?_⟩;intro H r c s B;obtain⟨p,e,A⟩:=A.al s B;have d:=d.keep B;refine tsw c [iU (cI E b),iU (ez E b)] ?_
   intro G Y C;have A:=At.cell A c C p e (by decide);have d:=d.chg C (by omega);have c:=Y;refine nt<|aA [(0,pg g),(1,iU a),(2,iU b),(3,iU k),(8,iI 0),(9,pg v),(10,pg r)]<|ag<|sr<|tlr 32 [iU (cI E b),iU (ez E b)] c 0<|tz 1 ?_
   by_cases j:fI (cI E b) k
   ·refine tc 34 91 #[.agg #[iU (cI E b),iU (ez E b)],iU k] (iJ (h.qp _) hk (decide_eq_true j)) ?_
    rintro _ Q ⟨rfl,B⟩;have A:=A.keep B;have d:=d.keep B;have c:=c.keep B;refine⟨_,rfl,tz 1<|nt<|nk<|sr<|tz 1<|tl 37 (iU (cI E a)) d 0<|tz 1<|tq 39 (iU (IntKind.u64.wrap ((cI E a) - k))) (iU ((cI E a) - k)) (wu (by have:=h.qp a;have:=h.qp b;have q:=j;unfold fI at q;omega))<|tz 1<|ts d 0 (iU ((cI E a) - k)) [iU ((cI E a) - k)] [iU ((cI E a) - k),iU (ez E a)] ?_⟩;intro O Y C;have A:=At.cell A d C t f (by decide);have c:=c.chg C (by omega);have d:=Y;refine nx<|tz 1<|tl 42 (iU (cI E b)) c 0<|tz 1<|tq 44 (iU (IntKind.u64.wrap ((cI E b)+k))) (iU ((cI E b)+k)) (wu (by have:=h.qp a;have:=h.qp b;have q:=j;unfold fI at q;omega))<|tz 1<|ts c 0 (iU ((cI E b)+k)) [iU ((cI E b)+k)] [iU ((cI E b)+k),iU (ez E b)] ?_
    intro v20 Y C;have A:=At.cell A c C p e (by decide);have d:=d.chg C (by omega);have c:=Y;refine nt<|aA [(0,pg g),(1,iU a),(2,iU b),(8,iI 0),(9,pg v),(10,pg r)]<|sr<|tz 2<|tlr 48 [iU ((cI E a) - k),iU (ez E a)] d 0<|tc 49 92 #[pg g,iU a,.agg #[iU ((cI E a) - k),iU (ez E a)]] (gS A.sx u (by omega) (by omega)) ?_
    rintro _ P ⟨rfl,I,S,o,m⟩;obtain⟨d,f⟩:=gm d f o m;obtain⟨c,e⟩:=gm c e o m;have A:=A.op S o m;refine⟨_,rfl,nx<|tz 2<|tlr 52 [iU ((cI E b)+k),iU (ez E b)] c 0<|tc 53 92 #[pg g,iU b,.agg #[iU ((cI E b)+k),iU (ez E b)]] (gS A.sx hb (by omega) (by omega)) ?_⟩;rintro _ F ⟨rfl,R,S,o,m⟩;obtain⟨d,f⟩:=gm d f o m;obtain⟨c,e⟩:=gm c e o m;have A:=A.op S o m;refine⟨_,rfl,nx<|tz 1<|nr<|ah (iI 0) (rs1 8) ?_⟩
    have e1:dG E a b k=0:=by first | (simp[dG,c1,i,l,j,c3];done) | (subst_vars;simp_all [dG])
    have e2:eB E a b k=qJ (qJ E a ((cI E a) - k) (ez E a)) b ((cI E b)+k) (ez E b):=by simp[eB,e1,c1,i,l,j,c3]
    rw[e1,e2];exact⟨rfl,_,_,_,A.sx,by omega,by omega,A.km,A.cc⟩
   refine tc 34 91 #[.agg #[iU (cI E b),iU (ez E b)],iU k] (iJ (h.qp _) hk (decide_eq_false j)) ?_
   rintro _ L ⟨rfl,B⟩;have A:=A.keep B;have d:=d.keep B;have c:=c.keep B;refine⟨_,rfl,tz 1<|nt<|aL<|sr<|tz 1<|nr<|bE<|ah (iI 91) (rs1 8) ?_⟩
   have e1:dG E a b k=91:=by first | (simp[dG,c1,i,l,j,c3];done) | (subst_vars;simp_all [dG])
   have e2:eB E a b k=E:=by simp[eB,e1,c1,i,l,j,c3]
   rw[e1,e2];exact⟨rfl,_,_,_,A.sx,by omega,by omega,A.km,A.cc⟩
  refine tc 16 90 #[iU b] (ft hb (decide_eq_false c3)) ?_
  rintro _ J ⟨rfl,B⟩;have A:=A.keep B;refine⟨_,rfl,tz 2<|nt<|aA [(0,pg g),(1,iU a),(2,iU b),(3,iU k),(8,iI 0),(18,bT)]<|aL<|sr<|tz 1<|nr<|bE<|ah (iI 92) (rs1 8) ?_⟩
  have e1:dG E a b k=92:=by first | (simp[dG,c1,c3];done) | (subst_vars;simp_all [dG])
  have e2:eB E a b k=E:=by simp[eB,e1,c1,c3]
  rw[e1,e2];exact⟨rfl,_,_,_,A.sx,by omega,by omega,A.km,A.cc⟩
 refine tc 12 90 #[iU a] (ft u (decide_eq_false c1)) ?_
 rintro _ M ⟨rfl,B⟩;have A:=A.keep B;refine⟨_,rfl,tz 2<|tn 15<|tn 16<|tn 17<|tz 1<|nt<|aA [(0,pg g),(1,iU a),(2,iU b),(3,iU k),(8,iI 0),(18,bT)]<|aL<|sr<|tz 1<|nr<|bE<|ah (iI 92) (rs1 8) ?_⟩
 have e1:dG E a b k=92:=by first | (simp[dG,c1];done) | (subst_vars;simp_all [dG])
 have e2:eB E a b k=E:=by simp[eB,e1,c1]
 rw[e1,e2];exact⟨rfl,_,_,_,A.sx,by omega,by omega,A.km,A.cc⟩
end
end Bk
end Go.Proofs.YtpoifdokmjhclaaGreat
