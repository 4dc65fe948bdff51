import Derived.Test.YtpoifdokmjhclaaGreatJgm
set_option maxRecDepth 100000
set_option maxHeartbeats 8000000
namespace Go.Proofs.YtpoifdokmjhclaaGreat
namespace Bk
open Go.RowKit Go.Lib Pg Lim Gl Kv
attribute [local go_sem] Oper.semAt_some
set_option linter.unusedSimpArgs false
set_option linter.unusedVariables false
section
variable {w:World}{id x y k:Int}{v:Value}{l:List Int}{B g n N:Nat}{K D:Nat->Prop}{E:aA}{W:List aA}{ρ:Operand->Value}{b:Bool}
theorem ake(id:Int):Ky.mkE 4 id 0=false:=by
 unfold Ky.mkE;rw[show (Ky.frm 4).1=9 from rfl];simp
theorem py(c:0<=id/\id < 18446744073709551616):Calls Tryz.prog 40 #[.int .u64 id] w fun e w'=>∃ v,e=.returned v/\ByU w' v (ak id)/\Below w.heap.size w w':=by
 have b:=Below.refl w.heap.size w;refine af (n:=12) Tryz.func40 rfl ?_
 refine sr<|tz 1<|nx<|tz 2<|tc 8 72 #[.agg #[.int .i64 4,.int .u64 id,.int .u64 0]] (Ks.mk_g c (ake id)) ?_
 rintro _ v1 ⟨a,rfl,d,B⟩;refine⟨_,rfl,?_⟩;replace b:=ae b B;clear B;refine tz 5<|nx<|tz 2<|nt<|ay [(2,a)]<|bh<|ah (a) (rs1 2) ?_
 exact⟨_,rfl,ByU.of d,b⟩
theorem BL(h:ByU w v l)(d:l.length<=1000000000):Calls Tryz.prog 41 #[v] w fun e w'=>e=.returned (.tuple #[.agg #[.int .u64 (jF l),.int .u64 (pM l)],.int .i64 (Rc.gS (Rc.eu l))])/\Below w.heap.size w w':=by
 obtain⟨b,f,c,rfl,a⟩:=bya h.byt;exact Rc.yz a d
theorem AX:Calls Tryz.prog 132 #[.agg #[.int .u64 x,.int .u64 y]] w fun e w'=>∃ v,e=.returned v/\ByU w' v (pv x y)/\Below w.heap.size w w':=by
 refine Rc.lZ.mono ?_
 rintro e w' ⟨b,n,rfl,hn,X,hb,B⟩;exact⟨_,rfl,gC X (pv_oct x y) hn (Nat.le_trans (Aq x y) (by decide)),B⟩
theorem nR{kv vv:Value}(h:Sx B w K g E W n N)(hk:ByU w kv (ak id))(hv:ByU w vv (pv x y))(hn:n<=4000000000000000000)(a:N+2<=100000000) :
  Calls Tryz.prog 86 #[pg g,kv,vv] w (SxE B w K g (put E (ak id) (pv x y)) W (n+1) (N+2) (.int .i64 0)):=by
 have u:=xset h hk hv hn a;rw[set_ok,if_pos rfl] at u;exact u
theorem Sx.kQ(h:Sx B w K g E W n N)(k:List Int):((Kv.look E k).getD []).length<=1000000000:=by
 cases e:Kv.look E k with
 | none=>simp
 | some v=>exact(h.sa.small _ (Kv.jA e)).2
theorem vJ{err:Int}(ho:aK l):0<=rdV 0 (cQ 8 l) err/\rdV 0 (cQ 8 l) err < 18446744073709551616:=by
 unfold rdV cQ;split
 ·split
  ·exact⟨Int.le_refl _,by decide⟩
  ·rename_i a;split at a
   ·cases a;have:=bL (l:=l.take 8) (fun x hx=>ho x (List.mem_of_mem_take hx));rw[List.length_take,Nat.min_eq_left (by assumption)] at this;exact this
   ·cases a
 ·exact⟨Int.le_refl _,by decide⟩
theorem xh(ho:Oct l):(0<=jF l/\jF l < 18446744073709551616)/\(0<=pM l/\pM l < 18446744073709551616):=by
 have a:aK (rdL (cQ 8 l) 0 l):=by
  unfold rdL;split
  ·split
   ·exact ho
   ·exact fun x hx=>ho x (List.mem_of_mem_drop hx)
  ·exact ho
 have e:Rc.eu l=Rc.rnx 0 1 (Rc.rnx 0 0 (0,l,fun _=>0)):=rfl;unfold jF pM Rc.aR;rw[e];split
 ·exact⟨vJ (err:=0) ho,vJ a⟩
 ·exact⟨⟨Int.le_refl _,by decide⟩,Int.le_refl _,by decide⟩
theorem SA.octv(h:SA w K D g E W n N):∀ x∈E,Oct x.2:=by
 obtain⟨F,V,m,Q,d,T,i,hX,rfl,f⟩:=h.open;obtain⟨L,rfl,A,O,S,k,r⟩:=hX.map.ex;intro x hx;rw[da] at hx;obtain⟨e,he,rfl⟩:=List.mem_map.1 hx;obtain⟨es,b,a⟩:=List.mem_flatten.1 he;obtain⟨p,c,rfl⟩:=List.mem_map.1 b;exact((A.cD p c).1.eK e a).v.oct
theorem Sx.oct(h:Sx B w K g E W n N)(k:List Int):Oct ((Kv.look E k).getD []):=by
 cases e:Kv.look E k with
 | none=>exact fun x hx=>by simp at hx
 | some v=>exact SA.octv h.sa _ (Kv.jA e)
theorem Sx.pO(h:Sx B w K g E W n N)(id:Int):0<=cy E id/\cy E id < 18446744073709551616:=(xh (h.oct _)).1
theorem Fm{o:Oper}(hb:decide (x=0/\y=0)=b)(ho:∃ u v,o.op=.binOp .eql 50 u v 50/\ρ u=.agg #[.int .u64 x,.int .u64 y]/\ρ v=.agg #[.int .u64 0,.int .u64 0]:=by exact⟨_,_,rfl,by kernel_rfl,by kernel_rfl⟩):(execOp ρ o).run Tryz.prog w=.ok (.value (.bool b)) w:=by
 obtain⟨u,v,h,d,c⟩:=ho;subst hb;simp only[execOp,h,d,c];go_simp
 repeat' split
 all_goals simp_all
theorem fh(d:0<=id/\id < 18446744073709551616)(hb:decide (isA id)=b):cB 90 #[.int .u64 id] w (.bool b):=by
 have a:=Below.refl w.heap.size w;refine af (n:=13) Tryz.func90 rfl ?_
 refine sr<|tz 1<|nx<|tz 1 ?_
 by_cases c1:(1:Int)<=id
 ·refine tq 4 (.bool (decide ((1:Int)<=id))) (bT) (congrArg Value.bool (decide_eq_true c1))<|tz 2 ?_
  by_cases c2:(id:Int)<=4
  ·refine tq 7 (.bool (decide ((id:Int)<=4))) (bT) (congrArg Value.bool (decide_eq_true c2))<|tz 2<|tn 10<|tn 11<|tz 2<|nt<|ay [(2,bT)]<|bh<|ah (bT) (rs1 2) ?_
   refine⟨?_,a⟩;rw[<- hb];rw[decide_eq_true (by unfold isA;omega)]
  ·refine tq 7 (.bool (decide ((id:Int)<=4))) (bF) (congrArg Value.bool (decide_eq_false c2))<|tz 3 ?_
   by_cases c3:(16:Int)<=id
   ·refine tq 11 (.bool (decide ((16:Int)<=id))) (bT) (congrArg Value.bool (decide_eq_true c3))<|tz 2<|nt<|ay [(2,bT)]<|bh<|ah (bT) (rs1 2) ?_
    refine⟨?_,a⟩;rw[<- hb];rw[decide_eq_true (by unfold isA;omega)]
   ·refine tq 11 (.bool (decide ((16:Int)<=id))) (bF) (congrArg Value.bool (decide_eq_false c3))<|tz 2<|nt<|ay [(2,bF)]<|bh<|ah (bF) (rs1 2) ?_
    refine⟨?_,a⟩;rw[<- hb];rw[decide_eq_false (by unfold isA;omega)]
 ·refine tq 4 (.bool (decide ((1:Int)<=id))) (bF) (congrArg Value.bool (decide_eq_false c1))<|tz 1<|tn 6<|tn 7<|tz 3 ?_
  by_cases c:(16:Int)<=id
  ·refine tq 11 (.bool (decide ((16:Int)<=id))) (bT) (congrArg Value.bool (decide_eq_true c))<|tz 2<|nt<|ay [(2,bT)]<|bh<|ah (bT) (rs1 2) ?_
   refine⟨?_,a⟩;rw[<- hb];rw[decide_eq_true (by unfold isA;omega)]
  ·refine tq 11 (.bool (decide ((16:Int)<=id))) (bF) (congrArg Value.bool (decide_eq_false c))<|tz 2<|nt<|ay [(2,bF)]<|bh<|ah (bF) (rs1 2) ?_
   refine⟨?_,a⟩;rw[<- hb];rw[decide_eq_false (by unfold isA;omega)]
theorem iz(hx:0<=x/\x < 18446744073709551616)(hk:0<=k/\k < 18446744073709551616)(hb:decide (fx x k)=b):cB 91 #[.agg #[.int .u64 x,.int .u64 y],.int .u64 k] w (.bool b):=by
 have a:=Below.refl w.heap.size w;refine af (n:=15) Tryz.func91 rfl ?_
 refine sr<|ta 2 [iU x,iU y] 50 (pg) ?_
 intro v1 f c e B;replace a:=ae a B;refine tz 1<|nx<|tz 1<|tl 6 (iU x) c 0 ?_
 by_cases c3:(x:Int)<=1000000000000000000
 ·refine tq 7 (.bool (decide ((x:Int)<=1000000000000000000))) (bT) (congrArg Value.bool (decide_eq_true c3))<|tz 3<|tl 11 (iU x) c 0<|tq 12 (iU (IntKind.u64.wrap (1000000000000000000 - x))) (iU (1000000000000000000 - x)) (wu (by omega)) ?_
  by_cases d:(k:Int)<=1000000000000000000 - x
  ·refine tq 13 (.bool (decide ((k:Int)<=1000000000000000000 - x))) (bT) (congrArg Value.bool (decide_eq_true d))<|tz 2<|nt<|ay [(4,bT)]<|bh<|ah (bT) (rs1 4) ?_
   refine⟨?_,a⟩;rw[<- hb];rw[decide_eq_true (by unfold fx;omega)]
  ·refine tq 13 (.bool (decide ((k:Int)<=1000000000000000000 - x))) (bF) (congrArg Value.bool (decide_eq_false d))<|tz 2<|nt<|ay [(4,bF)]<|bh<|ah (bF) (rs1 4) ?_
   refine⟨?_,a⟩;rw[<- hb];rw[decide_eq_false (by unfold fx;omega)]
 ·refine tq 7 (.bool (decide ((x:Int)<=1000000000000000000))) (bF) (congrArg Value.bool (decide_eq_false c3))<|tz 1<|tn 9<|tn 10<|tn 11<|tn 12<|tn 13<|tz 2<|nt<|ay [(4,bF)]<|bh<|ah (bF) (rs1 4) ?_
  refine⟨?_,a⟩;rw[<- hb];rw[decide_eq_false (by unfold fx;omega)]
theorem fF(h:Sx B w K g E W n N)(p:0<=id/\id < 18446744073709551616)(hn:n+5<=4000000000000000000)(z:N+5<=100000000):Calls Tryz.prog 15 #[pg g,.int .u64 id] w (SxE B w K g E W (n+1) N (.agg #[.int .u64 (cy E id),.int .u64 (eb E id)])):=by
 have A:=h.at
 refine af (n:=22) Tryz.func15 rfl ?_
 refine sr<|ta 4 [.int .u64 0,.int .u64 0] 50 (pg) ?_
 intro v1 q a j B;have s:=Nat.le_trans A.size j;have d:=A.new j;replace A:=A.keep B;clear B;refine nx<|tz 2<|tc 12 40 #[.int .u64 id] (py p) ?_
 rintro _ D ⟨r,rfl,o,B⟩;refine⟨_,rfl,?_⟩;replace A:=A.keep B;replace a:=a.keep B;clear B;refine tc 13 39 #[pg g,r] (Be A.sx o (by omega) (by omega)) ?_
 rintro _ y ⟨k,rfl,l,S,m⟩;refine⟨_,rfl,?_⟩;replace a:=a.chg m d;replace o:=A.byu o m;replace A:=A.op S (fun _ h=>.inl h) m;clear S m;clear o;refine tz 5<|nt<|ay [(4,pg q),(5,k)]<|sr<|tz 1<|tc 18 41 #[k] (BL l (A.sx.kQ _)) ?_
 rintro _ x ⟨rfl,B⟩;refine⟨_,rfl,?_⟩;replace A:=A.keep B;replace a:=a.keep B;replace l:=cE l B;clear B;clear l;refine tz 3 ?_
 have t:=a.lt;refine ta 7 [.int .u64 0,.int .u64 0] 50 (pg) ?_
 intro v10 f b c B;have i:=Nat.le_trans A.size c;have e:=A.new c;replace A:=A.keep B;replace a:=a.keep B;clear B;refine tsw b [.int .u64 (jF ((Kv.look E (ak id)).getD [])),.int .u64 (pM ((Kv.look E (ak id)).getD []))] ?_
 intro v Y C;replace A:=At.cell A b C i e (by decide);replace a:=a.chg C (show q≠f by omega);clear C b;have b:=Y;clear Y;refine tz 1<|nx<|tlr 21 [.int .u64 (jF ((Kv.look E (ak id)).getD [])),.int .u64 (pM ((Kv.look E (ak id)).getD []))] b 0<|tsw a [.int .u64 (jF ((Kv.look E (ak id)).getD [])),.int .u64 (pM ((Kv.look E (ak id)).getD []))] ?_
 intro u Y C;replace A:=At.cell A a C s d (by decide);replace b:=b.chg C (show f≠q by omega);clear C a;have a:=Y;clear Y;refine nr<|ah (.agg #[.int .u64 (jF ((Kv.look E (ak id)).getD [])),.int .u64 (pM ((Kv.look E (ak id)).getD []))]) (rsc (T:=50) 4 (lr a 0)) ?_
 exact⟨rfl,_,A.sx,A.km,A.cc⟩
theorem gG(h:Sx B w K g E W n N)(j:0<=id/\id < 18446744073709551616)(hn:n+5<=4000000000000000000)(C:N+5<=100000000):Calls Tryz.prog 92 #[pg g,.int .u64 id,.agg #[.int .u64 x,.int .u64 y]] w (SxE B w K g (qi E id x y) W (n+1) (N+2) (.tuple #[])):=by
 have A:=h.at
 refine af (n:=19) Tryz.func92 rfl ?_
 refine sr<|ta 5 [iU x,iU y] 50 (pg) ?_
 intro v1 u a o B;obtain⟨s,b,A⟩:=A.al o B;refine nt<|ag<|sr<|tlr 6 [iU x,iU y] a 0<|tz 1 ?_
 by_cases c3:x=0/\y=0
 ·refine tr 8 (bT) (Fm (decide_eq_true c3))<|nt<|aJ<|sr<|tz 2<|tc 11 40 #[iU id] (py j) ?_
  rintro _ v6 ⟨m,rfl,l,B⟩;refine⟨_,rfl,?_⟩;replace A:=A.keep B;replace a:=a.keep B;refine tc 12 131 #[pg g,m] (xdel A.sx l (by have:=zY id;omega) (by omega) (by omega)) ?_
  rintro _ t ⟨rfl,v,S,k,d⟩;refine⟨_,rfl,?_⟩;obtain⟨a,b⟩:=fT a b k d;replace l:=A.byu l d;replace A:=A.op S k d;clear l;refine nr<|bN<|ah (.tuple #[]) (rs0) ?_
  rw[show qi E id x y=_ from if_pos c3];exact⟨rfl,_,A.sx,A.km,A.cc⟩
 ·refine tr 8 (bF) (Fm (decide_eq_false c3))<|nt<|nk ?_
  replace A:=A.drew;replace a:=a.drew;refine gd1 a ?_
  refine z 0 13 (pg g)<|z 1 14 (iU id)<|zlr 3 16 [iU x,iU y] (fun _ h=>h) 0<|zc 2 15 40 #[iU id] (py j) ?_
  rintro _ v11 ⟨i,rfl,e,B⟩;replace A:=A.keep B;replace a:=a.keep B;refine⟨_,rfl,a,zc 4 17 132 #[.agg #[iU x,iU y]] (AX) ?_⟩;rintro _ q ⟨f,rfl,c,B⟩;replace A:=A.keep B;replace a:=a.keep B;replace e:=cE e B;refine⟨_,rfl,a,zc 5 18 86 #[pg g,i,f] (nR A.sx e c (by omega) (by omega)) ?_⟩;rintro _ p ⟨rfl,r,S,k,d⟩;obtain⟨a,b⟩:=fT a b k d;replace e:=A.byu e d;replace c:=A.byu c d;replace A:=A.op S k d;clear e;clear c;refine⟨_,rfl,a,aP<|aV (.tuple #[]) (rs0) ?_⟩;rw[show qi E id x y=_ from if_neg c3];exact⟨rfl,_,A.sx,A.km,A.cc⟩
def gj(E:aA)(id k:Int):Int:=if ¬ isA id then 92 else if ¬ fx (cy E id) k then 91 else 0
def iQ(E:aA)(id k:Int):aA:=if gj E id k=0 then qi E id (cy E id+k) (eb E id) else E
def dy(E:aA)(a b k:Int):Int:=if ¬ isA a\/¬ isA b then 92 else if cy E a < k then 90 else if a=b then 0 else if ¬ fx (cy E b) k then 91 else 0
def ec(E:aA)(a b k:Int):aA:=if dy E a b k=0/\a≠b then qi (qi E a (cy E a - k) (eb E a)) b (cy E b+k) (eb E b) else E
theorem rP(h:Sx B w K g E W n N)(c:0<=id/\id < 18446744073709551616)(hk:0<=k/\k < 18446744073709551616)(hn:n+10<=4000000000000000000)(x:N+10<=100000000):Calls Tryz.prog 67 #[pg g,.int .u64 id,.int .u64 k] w (SxF B w K g (iQ E id k) W n N (.int .i64 (gj E id k))):=by
 have A:=h.at
 refine af (n:=27) Tryz.func67 rfl ?_
 refine sr<|tz 1<|nt<|ag<|sr<|tz 1 ?_
 by_cases c1:isA id
 ·refine tc 9 90 #[iU id] (fh c (decide_eq_true c1)) ?_
  rintro _ v2 ⟨rfl,B⟩;refine⟨_,rfl,?_⟩;replace A:=A.keep B;refine tz 1<|nt<|nk<|sr<|tz 2<|tc 13 15 #[pg g,iU id] (fF A.sx c (by omega) (by omega)) ?_
  rintro _ v4 ⟨rfl,t,S,i,f⟩;refine⟨_,rfl,?_⟩;replace A:=A.op S i f;refine ta 7 [iU 0,iU 0] 50 (pg) ?_
  intro v l a j B;obtain⟨e,b,A⟩:=A.al j B;refine tsw a [iU (cy E id),iU (eb E id)] ?_
  intro u Y C;replace A:=At.cell A a C e b (by decide);have a:=Y;refine nt<|ag<|sr<|tlr 14 [iU (cy E id),iU (eb E id)] a 0<|tz 1 ?_
  by_cases d:fx (cy E id) k
  ·refine tc 16 91 #[.agg #[iU (cy E id),iU (eb E id)],iU k] (iz (h.pO _) hk (decide_eq_true d)) ?_
   rintro _ s ⟨rfl,B⟩;refine⟨_,rfl,?_⟩;replace A:=A.keep B;replace a:=a.keep B;refine tz 1<|nt<|ay [(0,pg g),(1,iU id),(2,iU k),(6,iI 0),(7,pg l),(17,bF)]<|nk<|sr<|tz 1<|tl 19 (iU (cy E id)) a 0<|tz 1<|tq 21 (iU (IntKind.u64.wrap ((cy E id)+k))) (iU ((cy E id)+k)) (wu (by have:=h.pO id;have q:=d;unfold fx at q;omega))<|tz 1<|ts a 0 (iU ((cy E id)+k)) [iU ((cy E id)+k)] [iU ((cy E id)+k),iU (eb E id)] ?_
   intro v10 Y C;replace A:=At.cell A a C e b (by decide);have a:=Y;refine nx<|tz 2<|tlr 25 [iU ((cy E id)+k),iU (eb E id)] a 0<|tc 26 92 #[pg g,iU id,.agg #[iU ((cy E id)+k),iU (eb E id)]] (gG A.sx c (by omega) (by omega)) ?_
   rintro _ r ⟨rfl,o,S,i,f⟩;refine⟨_,rfl,?_⟩;obtain⟨a,b⟩:=fT a b i f;replace A:=A.op S i f;refine nx<|tz 1<|nr<|ah (iI 0) (rs1 6) ?_
   have e1:gj E id k=0:=by first | (simp[gj,c1,d];done) | (subst_vars;simp_all [gj])
   have e2:iQ E id k=qi E id ((cy E id)+k) (eb E id):=by simp[iQ,e1,c1,d]
   rw[e1,e2];exact⟨rfl,_,_,_,A.sx,by omega,by omega,A.km,A.cc⟩
  ·refine tc 16 91 #[.agg #[iU (cy E id),iU (eb E id)],iU k] (iz (h.pO _) hk (decide_eq_false d)) ?_
   rintro _ m ⟨rfl,B⟩;refine⟨_,rfl,?_⟩;replace A:=A.keep B;replace a:=a.keep B;refine tz 1<|nt<|ay [(0,pg g),(1,iU id),(2,iU k),(6,iI 0),(7,pg l),(17,bT)]<|aJ<|sr<|tz 1<|nr<|bN<|ah (iI 91) (rs1 6) ?_
   have e1:gj E id k=91:=by first | (simp[gj,c1,d];done) | (subst_vars;simp_all [gj])
   have e2:iQ E id k=E:=by simp[iQ,e1,c1,d]
   rw[e1,e2];exact⟨rfl,_,_,_,A.sx,by omega,by omega,A.km,A.cc⟩
 ·refine tc 9 90 #[iU id] (fh c (decide_eq_false c1)) ?_
  rintro _ p ⟨rfl,B⟩;refine⟨_,rfl,?_⟩;replace A:=A.keep B;refine tz 1<|nt<|aJ<|sr<|tz 1<|nr<|bN<|ah (iI 92) (rs1 6) ?_
  have e1:gj E id k=92:=by first | (simp[gj,c1];done) | (subst_vars;simp_all [gj])
  have e2:iQ E id k=E:=by simp[iQ,e1,c1]
  rw[e1,e2];exact⟨rfl,_,_,_,A.sx,by omega,by omega,A.km,A.cc⟩
theorem mU{a b:Int}(h:Sx B w K g E W n N)(v:0<=a/\a < 18446744073709551616)(hb:0<=b/\b < 18446744073709551616)(hk:0<=k/\k < 18446744073709551616)(hn:n+10<=4000000000000000000)(X:N+10<=100000000):Calls Tryz.prog 142 #[pg g,.int .u64 a,.int .u64 b,.int .u64 k] w (SxF B w K g (ec E a b k) W n N (.int .i64 (dy E a b k))):=by
 have A:=h.at
 refine af (n:=54) Tryz.func142 rfl ?_
 refine sr<|tz 1<|nt<|ag<|sr<|tz 1 ?_
 by_cases c1:isA a
 ·refine tc 12 90 #[iU a] (fh v (decide_eq_true c1)) ?_
  rintro _ v2 ⟨rfl,B⟩;refine⟨_,rfl,?_⟩;replace A:=A.keep B;refine tz 3 ?_
  by_cases c3:isA b
  ·refine tc 16 90 #[iU b] (fh hb (decide_eq_true c3)) ?_
   rintro _ v4 ⟨rfl,B⟩;refine⟨_,rfl,?_⟩;replace A:=A.keep B;refine tz 2<|nt<|ay [(0,pg g),(1,iU a),(2,iU b),(3,iU k),(8,iI 0),(18,bF)]<|nk<|sr<|tz 2<|tc 21 15 #[pg g,iU a] (fF A.sx v (by omega) (by omega)) ?_
   rintro _ v6 ⟨rfl,V,S,o,m⟩;refine⟨_,rfl,?_⟩;replace A:=A.op S o m;refine ta 9 [iU 0,iU 0] 50 (pg) ?_
   intro T s d x B;obtain⟨u,f,A⟩:=A.al x B;refine tsw d [iU (cy E a),iU (eb E a)] ?_
   intro U Y C;replace A:=At.cell A d C u f (by decide);have d:=Y;refine nt<|ag<|sr<|tz 1<|tl 23 (iU (cy E a)) d 0<|tz 1 ?_
   by_cases i:(cy E a:Int) < k
   ·refine tq 25 (.bool (decide ((cy E a:Int) < k))) (bT) (congrArg Value.bool (decide_eq_true i))<|nt<|aJ<|sr<|tz 1<|nr<|bN<|ah (iI 90) (rs1 8) ?_
    have e1:dy E a b k=90:=by first | (simp[dy,c1,i,c3];done) | (subst_vars;simp_all [dy])
    have e2:ec E a b k=E:=by simp[ec,e1,c1,i,c3]
    rw[e1,e2];exact⟨rfl,_,_,_,A.sx,by omega,by omega,A.km,A.cc⟩
   ·refine tq 25 (.bool (decide ((cy E a:Int) < k))) (bF) (congrArg Value.bool (decide_eq_false i))<|nt<|nk<|ag<|sr<|tz 2 ?_
    by_cases l:(a:Int)=b
    ·refine tq 28 (.bool ((a:Int) == b)) (bT) (congrArg Value.bool (beq_iff_eq.2 l))<|nt<|aJ<|sr<|tz 1<|nt<|ay [(0,pg g),(1,iU a),(2,iU b),(3,iU k),(8,iI 0),(9,pg s)]<|bh<|bN<|ah (iI 0) (rs1 8) ?_
     have e1:dy E a b k=0:=by first | (simp[dy,c1,i,l,c3];done) | (subst_vars;simp_all [dy])
     have e2:ec E a b k=E:=by simp[ec,e1,c1,i,l,c3]
     rw[e1,e2];exact⟨rfl,_,_,_,A.sx,by omega,by omega,A.km,A.cc⟩
    ·refine tq 28 (.bool ((a:Int) == b)) (bF) (congrArg Value.bool (beq_eq_false_iff_ne.2 l))<|nt<|nk<|sr<|tz 2<|tc 31 15 #[pg g,iU b] (fF A.sx hb (by omega) (by omega)) ?_
     rintro _ z ⟨rfl,J,S,o,m⟩;refine⟨_,rfl,?_⟩;obtain⟨d,f⟩:=fT d f o m;replace A:=A.op S o m;have y:=d.lt;refine ta 10 [iU 0,iU 0] 50 (pg) ?_
     intro L p c t B;obtain⟨r,e,A⟩:=A.al t B;replace d:=d.keep B;refine tsw c [iU (cy E b),iU (eb E b)] ?_
     intro F Y C;replace A:=At.cell A c C r e (by decide);replace d:=d.chg C (show s≠p by omega);have c:=Y;refine nt<|ay [(0,pg g),(1,iU a),(2,iU b),(3,iU k),(8,iI 0),(9,pg s),(10,pg p)]<|ag<|sr<|tlr 32 [iU (cy E b),iU (eb E b)] c 0<|tz 1 ?_
     by_cases j:fx (cy E b) k
     ·refine tc 34 91 #[.agg #[iU (cy E b),iU (eb E b)],iU k] (iz (h.pO _) hk (decide_eq_true j)) ?_
      rintro _ Q ⟨rfl,B⟩;refine⟨_,rfl,?_⟩;replace A:=A.keep B;replace d:=d.keep B;replace c:=c.keep B;refine tz 1<|nt<|nk<|sr<|tz 1<|tl 37 (iU (cy E a)) d 0<|tz 1<|tq 39 (iU (IntKind.u64.wrap ((cy E a) - k))) (iU ((cy E a) - k)) (wu (by have:=h.pO a;have:=h.pO b;have q:=j;unfold fx at q;omega))<|tz 1<|ts d 0 (iU ((cy E a) - k)) [iU ((cy E a) - k)] [iU ((cy E a) - k),iU (eb E a)] ?_
      intro I Y C;replace A:=At.cell A d C u f (by decide);replace c:=c.chg C (show p≠s by omega);have d:=Y;refine nx<|tz 1<|tl 42 (iU (cy E b)) c 0<|tz 1<|tq 44 (iU (IntKind.u64.wrap ((cy E b)+k))) (iU ((cy E b)+k)) (wu (by have:=h.pO a;have:=h.pO b;have q:=j;unfold fx at q;omega))<|tz 1<|ts c 0 (iU ((cy E b)+k)) [iU ((cy E b)+k)] [iU ((cy E b)+k),iU (eb E b)] ?_
      intro v20 Y C;replace A:=At.cell A c C r e (by decide);replace d:=d.chg C (show s≠p by omega);have c:=Y;refine nt<|ay [(0,pg g),(1,iU a),(2,iU b),(8,iI 0),(9,pg s),(10,pg p)]<|sr<|tz 2<|tlr 48 [iU ((cy E a) - k),iU (eb E a)] d 0<|tc 49 92 #[pg g,iU a,.agg #[iU ((cy E a) - k),iU (eb E a)]] (gG A.sx v (by omega) (by omega)) ?_
      rintro _ P ⟨rfl,G,S,o,m⟩;refine⟨_,rfl,?_⟩;obtain⟨d,f⟩:=fT d f o m;obtain⟨c,e⟩:=fT c e o m;replace A:=A.op S o m;refine nx<|tz 2<|tlr 52 [iU ((cy E b)+k),iU (eb E b)] c 0<|tc 53 92 #[pg g,iU b,.agg #[iU ((cy E b)+k),iU (eb E b)]] (gG A.sx hb (by omega) (by omega)) ?_
      rintro _ D ⟨rfl,R,S,o,m⟩;refine⟨_,rfl,?_⟩;obtain⟨d,f⟩:=fT d f o m;obtain⟨c,e⟩:=fT c e o m;replace A:=A.op S o m;refine nx<|tz 1<|nr<|ah (iI 0) (rs1 8) ?_
      have e1:dy E a b k=0:=by first | (simp[dy,c1,i,l,j,c3];done) | (subst_vars;simp_all [dy])
      have e2:ec E a b k=qi (qi E a ((cy E a) - k) (eb E a)) b ((cy E b)+k) (eb E b):=by simp[ec,e1,c1,i,l,j,c3]
      rw[e1,e2];exact⟨rfl,_,_,_,A.sx,by omega,by omega,A.km,A.cc⟩
     ·refine tc 34 91 #[.agg #[iU (cy E b),iU (eb E b)],iU k] (iz (h.pO _) hk (decide_eq_false j)) ?_
      rintro _ O ⟨rfl,B⟩;refine⟨_,rfl,?_⟩;replace A:=A.keep B;replace d:=d.keep B;replace c:=c.keep B;refine tz 1<|nt<|aJ<|sr<|tz 1<|nr<|bN<|ah (iI 91) (rs1 8) ?_
      have e1:dy E a b k=91:=by first | (simp[dy,c1,i,l,j,c3];done) | (subst_vars;simp_all [dy])
      have e2:ec E a b k=E:=by simp[ec,e1,c1,i,l,j,c3]
      rw[e1,e2];exact⟨rfl,_,_,_,A.sx,by omega,by omega,A.km,A.cc⟩
  ·refine tc 16 90 #[iU b] (fh hb (decide_eq_false c3)) ?_
   rintro _ M ⟨rfl,B⟩;refine⟨_,rfl,?_⟩;replace A:=A.keep B;refine tz 2<|nt<|ay [(0,pg g),(1,iU a),(2,iU b),(3,iU k),(8,iI 0),(18,bT)]<|aJ<|sr<|tz 1<|nr<|bN<|ah (iI 92) (rs1 8) ?_
   have e1:dy E a b k=92:=by first | (simp[dy,c1,c3];done) | (subst_vars;simp_all [dy])
   have e2:ec E a b k=E:=by simp[ec,e1,c1,c3]
   rw[e1,e2];exact⟨rfl,_,_,_,A.sx,by omega,by omega,A.km,A.cc⟩
 ·refine tc 12 90 #[iU a] (fh v (decide_eq_false c1)) ?_
  rintro _ H ⟨rfl,B⟩;refine⟨_,rfl,?_⟩;replace A:=A.keep B;refine tz 2<|tn 15<|tn 16<|tn 17<|tz 1<|nt<|ay [(0,pg g),(1,iU a),(2,iU b),(3,iU k),(8,iI 0),(18,bT)]<|aJ<|sr<|tz 1<|nr<|bN<|ah (iI 92) (rs1 8) ?_
  have e1:dy E a b k=92:=by first | (simp[dy,c1];done) | (subst_vars;simp_all [dy])
  have e2:ec E a b k=E:=by simp[ec,e1,c1]
  rw[e1,e2];exact⟨rfl,_,_,_,A.sx,by omega,by omega,A.km,A.cc⟩
end
end Bk
end Go.Proofs.YtpoifdokmjhclaaGreat
