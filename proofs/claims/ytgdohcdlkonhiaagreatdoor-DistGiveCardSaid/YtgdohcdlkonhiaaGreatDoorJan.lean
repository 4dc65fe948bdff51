import Derived.Test.YtgdohcdlkonhiaaGreatDoorJam
set_option maxRecDepth 100000
set_option maxHeartbeats 8000000
namespace Go.Proofs.YtgdohcdlkonhiaaGreatDoor
namespace Bk
open Go.RowKit Go.Lib Pg Lim Gl Kv
attribute [local go_sem] Oper.semAt_some
set_option linter.unusedSimpArgs false
set_option linter.unusedVariables false
section
variable {w:World}{id x y k:Int}{v:Value}{l:List Int}{B g n N:Nat}{K D:Nat->Prop}{E:aC}{W:List aC}{ρ:Operand->Value}{b:Bool}
theorem ake(id:Int):Ky.mkE 4 id 0=false:=by
 unfold Ky.mkE;rw[show (Ky.frm 4).1=9 from rfl];simp
theorem pD(hid:0<=id/\id < 18446744073709551616):Calls Tryz.prog 83 #[.int .u64 id] w fun e w'=>∃ v,e=.returned v/\ByU w' v (ak id)/\Below w.heap.size w w':=by
 have b:=Below.refl w.heap.size w;refine ax (n:=12) Tryz.func83 rfl ?_
 refine ae (ah (t 2 (.slice none 0 0) (af (aa (ae (ah (t 6 (iU id) (t 7 (.agg #[iI 4,iU id,iU 0]) (tc 8 14 #[.agg #[iI 4,iU id,iU 0]] (Ks.mk_g hid (ake id)) ?_)))))))));rintro _ v1 ⟨a,rfl,c,B⟩;refine⟨_,rfl,?_⟩;replace b:=aj b B;refine t 5 (.tuple #[a,iI 0]) (t 9 (a) (t 10 (iI 0) (t 3 (a) (t 4 (iI 0) (af (aa (ae (ah (t 11 (a) (t 2 (a) (af (aa (aD [(2,a)] (ay (aA (a) (rs1 2) ?_)))))))))))))));exact⟨_,rfl,ByU.of c,b⟩
theorem AD(h:ByU w v l)(d:l.length<=1000000000):Calls Tryz.prog 84 #[v] w fun e w'=>e=.returned (.tuple #[.agg #[.int .u64 (fJ l),.int .u64 (jr l)],.int .i64 (Rc.eN (Rc.dq l))])/\Below w.heap.size w w':=by
 obtain⟨b,f,c,rfl,a⟩:=bya h.byt;exact Rc.xL a d
theorem zO:Calls Tryz.prog 113 #[.agg #[.int .u64 x,.int .u64 y]] w fun e w'=>∃ v,e=.returned v/\ByU w' v (pv x y)/\Below w.heap.size w w':=by
 refine Rc.mi.mono ?_
 rintro e w' ⟨b,n,rfl,hn,X,hb,B⟩;exact⟨_,rfl,iN X (pv_oct x y) hn (Nat.le_trans (zi x y) (by decide)),B⟩
theorem rT{kv vv:Value}(h:Sx B w K g E W n N)(hk:ByU w kv (ak id))(hv:ByU w vv (pv x y))(hn:n<=4000000000000000000)(a:N+2<=100000000) :
  Calls Tryz.prog 15 #[pg g,kv,vv] w (SxE B w K g (put E (ak id) (pv x y)) W (n+1) (N+2) (.int .i64 0)):=by
 have u:=xset h hk hv hn a;rw[set_ok,if_pos rfl] at u;exact u
theorem Sx.jC(h:Sx B w K g E W n N)(k:List Int):((Kv.look E k).getD []).length<=1000000000:=by
 cases e:Kv.look E k with
 | none=>simp
 | some v=>exact(h.sa.small _ (Kv.mC e)).2
theorem vz{err:Int}(ho:aY l):0<=rdV 0 (ez 8 l) err/\rdV 0 (ez 8 l) err < 18446744073709551616:=by
 unfold rdV ez;split
 ·split
  ·exact⟨Int.le_refl _,by decide⟩
  ·rename_i a;split at a
   ·cases a;have:=bH (l:=l.take 8) (fun x hx=>ho x (List.mem_of_mem_take hx));rw[List.length_take,Nat.min_eq_left (by assumption)] at this;exact this
   ·cases a
 ·exact⟨Int.le_refl _,by decide⟩
theorem wO(ho:Oct l):(0<=fJ l/\fJ l < 18446744073709551616)/\(0<=jr l/\jr l < 18446744073709551616):=by
 have a:aY (rdL (ez 8 l) 0 l):=by
  unfold rdL;split
  ·split
   ·exact ho
   ·exact fun x hx=>ho x (List.mem_of_mem_drop hx)
  ·exact ho
 have e:Rc.dq l=Rc.rnx 0 1 (Rc.rnx 0 0 (0,l,fun _=>0)):=rfl;unfold fJ jr Rc.aP;rw[e];split
 ·exact⟨vz (err:=0) ho,vz a⟩
 ·exact⟨⟨Int.le_refl _,by decide⟩,Int.le_refl _,by decide⟩
theorem SA.octv(h:SA w K D g E W n N):∀ x∈E,Oct x.2:=by
 obtain⟨F,V,m,Q,d,T,i,hX,rfl,f⟩:=h.open;obtain⟨L,rfl,A,O,S,k,r⟩:=hX.map.ex;intro x hx;rw[dm] at hx;obtain⟨e,he,rfl⟩:=List.mem_map.1 hx;obtain⟨es,b,a⟩:=List.mem_flatten.1 he;obtain⟨p,c,rfl⟩:=List.mem_map.1 b;exact((A.b8 p c).1.fg e a).v.oct
theorem Sx.oct(h:Sx B w K g E W n N)(k:List Int):Oct ((Kv.look E k).getD []):=by
 cases e:Kv.look E k with
 | none=>exact fun x hx=>by simp at hx
 | some v=>exact SA.octv h.sa _ (Kv.mC e)
theorem Sx.pV(h:Sx B w K g E W n N)(id:Int):0<=bN E id/\bN E id < 18446744073709551616:=(wO (h.oct _)).1
theorem D1{o:Oper}(hb:decide (x=0/\y=0)=b)(ho:∃ u v,o.op=.binOp .eql 73 u v 73/\ρ u=.agg #[.int .u64 x,.int .u64 y]/\ρ v=.agg #[.int .u64 0,.int .u64 0]:=by exact⟨_,_,rfl,by kernel_rfl,by kernel_rfl⟩):(execOp ρ o).run Tryz.prog w=.ok (.value (.bool b)) w:=by
 obtain⟨u,v,h,d,c⟩:=ho;subst hb;simp only[execOp,h,d,c];go_simp
 repeat' split
 all_goals simp_all
theorem fE(hid:0<=id/\id < 18446744073709551616)(hb:decide (isA id)=b):Calls Tryz.prog 53 #[.int .u64 id] w fun e w'=>e=.returned (.bool b)/\Below w.heap.size w w':=by
 have a:=Below.refl w.heap.size w;refine ax (n:=13) Tryz.func53 rfl ?_
 refine ae (ah (t 2 (bF) (af (aa (ae (ah (t 3 (iU id) ?_)))))));by_cases c1:(1:Int)<=id
 ·refine tq 4 (.bool (decide ((1:Int)<=id))) (bT) (congrArg Value.bool (decide_eq_true c1)) (t 5 (bT) (t 6 (iU id) ?_));by_cases c2:(id:Int)<=4
  ·refine tq 7 (.bool (decide ((id:Int)<=4))) (bT) (congrArg Value.bool (decide_eq_true c2)) (t 8 (bT) (t 9 (bT) (tn 10 (tn 11 (t 12 (bT) (t 2 (bT) (af (aa (aD [(2,bT)] (ay (aA (bT) (rs1 2) ?_)))))))))));refine⟨?_,a⟩;rw[<- hb];rw[decide_eq_true (by unfold isA;omega)]
  ·refine tq 7 (.bool (decide ((id:Int)<=4))) (bF) (congrArg Value.bool (decide_eq_false c2)) (t 8 (bF) (t 9 (bF) (t 10 (iU id) ?_)));by_cases c3:(16:Int)<=id
   ·refine tq 11 (.bool (decide ((16:Int)<=id))) (bT) (congrArg Value.bool (decide_eq_true c3)) (t 12 (bT) (t 2 (bT) (af (aa (aD [(2,bT)] (ay (aA (bT) (rs1 2) ?_)))))));refine⟨?_,a⟩;rw[<- hb];rw[decide_eq_true (by unfold isA;omega)]
   ·refine tq 11 (.bool (decide ((16:Int)<=id))) (bF) (congrArg Value.bool (decide_eq_false c3)) (t 12 (bF) (t 2 (bF) (af (aa (aD [(2,bF)] (ay (aA (bF) (rs1 2) ?_)))))));refine⟨?_,a⟩;rw[<- hb];rw[decide_eq_false (by unfold isA;omega)]
 ·refine tq 4 (.bool (decide ((1:Int)<=id))) (bF) (congrArg Value.bool (decide_eq_false c1)) (t 5 (bF) (tn 6 (tn 7 (t 8 (bF) (t 9 (bF) (t 10 (iU id) ?_))))));by_cases c4:(16:Int)<=id
  ·refine tq 11 (.bool (decide ((16:Int)<=id))) (bT) (congrArg Value.bool (decide_eq_true c4)) (t 12 (bT) (t 2 (bT) (af (aa (aD [(2,bT)] (ay (aA (bT) (rs1 2) ?_)))))));refine⟨?_,a⟩;rw[<- hb];rw[decide_eq_true (by unfold isA;omega)]
  ·refine tq 11 (.bool (decide ((16:Int)<=id))) (bF) (congrArg Value.bool (decide_eq_false c4)) (t 12 (bF) (t 2 (bF) (af (aa (aD [(2,bF)] (ay (aA (bF) (rs1 2) ?_)))))));refine⟨?_,a⟩;rw[<- hb];rw[decide_eq_false (by unfold isA;omega)]
theorem iP(hx:0<=x/\x < 18446744073709551616)(hk:0<=k/\k < 18446744073709551616)(hb:decide (fP x k)=b):Calls Tryz.prog 54 #[.agg #[.int .u64 x,.int .u64 y],.int .u64 k] w fun e w'=>e=.returned (.bool b)/\Below w.heap.size w w':=by
 have a:=Below.refl w.heap.size w;refine ax (n:=15) Tryz.func54 rfl ?_
 refine ae (ah (ta 2 [iU x,iU y] 73 (pg) ?_));intro v1 g2 c d B;replace a:=aj a B;refine t 4 (bF) (af (aa (ae (ah (t 5 (pg g2) (tl 6 (iU x) c 0 ?_))))));by_cases c3:(x:Int)<=1000000000000000000
 ·refine tq 7 (.bool (decide ((x:Int)<=1000000000000000000))) (bT) (congrArg Value.bool (decide_eq_true c3)) (t 8 (bT) (t 9 (iU k) (t 10 (pg g2) (tl 11 (iU x) c 0 (tq 12 (iU (IntKind.u64.wrap (1000000000000000000 - x))) (iU (1000000000000000000 - x)) (wu (by omega)) ?_)))));by_cases c4:(k:Int)<=1000000000000000000 - x
  ·refine tq 13 (.bool (decide ((k:Int)<=1000000000000000000 - x))) (bT) (congrArg Value.bool (decide_eq_true c4)) (t 14 (bT) (t 4 (bT) (af (aa (aD [(4,bT)] (ay (aA (bT) (rs1 4) ?_)))))));refine⟨?_,a⟩;rw[<- hb];rw[decide_eq_true (by unfold fP;omega)]
  ·refine tq 13 (.bool (decide ((k:Int)<=1000000000000000000 - x))) (bF) (congrArg Value.bool (decide_eq_false c4)) (t 14 (bF) (t 4 (bF) (af (aa (aD [(4,bF)] (ay (aA (bF) (rs1 4) ?_)))))));refine⟨?_,a⟩;rw[<- hb];rw[decide_eq_false (by unfold fP;omega)]
 ·refine tq 7 (.bool (decide ((x:Int)<=1000000000000000000))) (bF) (congrArg Value.bool (decide_eq_false c3)) (t 8 (bF) (tn 9 (tn 10 (tn 11 (tn 12 (tn 13 (t 14 (bF) (t 4 (bF) (af (aa (aD [(4,bF)] (ay (aA (bF) (rs1 4) ?_)))))))))))));refine⟨?_,a⟩;rw[<- hb];rw[decide_eq_false (by unfold fP;omega)]
theorem eR(h:Sx B w K g E W n N)(hid:0<=id/\id < 18446744073709551616)(hn:n+5<=4000000000000000000)(u:N+5<=100000000):Calls Tryz.prog 30 #[pg g,.int .u64 id] w (SxE B w K g E W (n+1) N (.agg #[.int .u64 (bN E id),.int .u64 (dy E id)])):=by
 have A:=h.at
 refine ax (n:=22) Tryz.func30 rfl ?_
 refine ae (ah (ta 4 [iU 0,iU 0] 73 (pg) ?_));intro v1 g2 a o B;obtain⟨p,d,A⟩:=A.al o B;refine af (aa (ae (ah (t 10 (pg g) (t 11 (iU id) (tc 12 83 #[iU id] (pD hid) ?_))))));rintro _ v5 ⟨m,rfl,k,B⟩;refine⟨_,rfl,?_⟩;replace A:=A.keep B;replace a:=a.keep B;refine tc 13 82 #[pg g,m] (xc A.sx k (by omega) (by omega)) ?_
 rintro _ s ⟨c,rfl,j,S,l⟩;refine⟨_,rfl,?_⟩;replace a:=a.chg l d;replace k:=A.byu k l;replace A:=A.op S (fun _ h=>.inl h) l;clear k;refine t 9 (.tuple #[c,.bool (Kv.look E (ak id)).isSome]) (t 14 (c) (t 15 (.bool (Kv.look E (ak id)).isSome) (t 5 (c) (t 6 (.bool (Kv.look E (ak id)).isSome) (af (aa (aD [(4,pg g2),(5,c)] (ae (ah (t 17 (c) (tc 18 84 #[c] (AD j (A.sx.jC _)) ?_)))))))))));rintro _ v9 ⟨rfl,B⟩;refine⟨_,rfl,?_⟩;replace A:=A.keep B;replace a:=a.keep B;replace j:=aT j B;clear j;refine t 16 (.tuple #[.agg #[iU (fJ ((Kv.look E (ak id)).getD [])),iU (jr ((Kv.look E (ak id)).getD []))],iI (Rc.eN (Rc.dq ((Kv.look E (ak id)).getD [])))]) (t 19 (.agg #[iU (fJ ((Kv.look E (ak id)).getD [])),iU (jr ((Kv.look E (ak id)).getD []))]) (t 20 (iI (Rc.eN (Rc.dq ((Kv.look E (ak id)).getD [])))) ?_));have q:=a.lt;refine ta 7 [iU 0,iU 0] 73 (pg) ?_
 intro v10 g11 b f B;obtain⟨i,e,A⟩:=A.al f B;replace a:=a.keep B;refine ts b 0 (.agg #[iU (fJ ((Kv.look E (ak id)).getD [])),iU (jr ((Kv.look E (ak id)).getD []))]) [iU (fJ ((Kv.look E (ak id)).getD [])),iU (jr ((Kv.look E (ak id)).getD []))] [iU (fJ ((Kv.look E (ak id)).getD [])),iU (jr ((Kv.look E (ak id)).getD []))] ?_
 intro v12 Y C;replace A:=At.cell A b C i e (by decide);replace a:=a.chg C (show g2≠g11 by omega);have b:=Y;refine t 8 (iI (Rc.eN (Rc.dq ((Kv.look E (ak id)).getD [])))) (af (aa (ae (ah (tlr 21 [iU (fJ ((Kv.look E (ak id)).getD [])),iU (jr ((Kv.look E (ak id)).getD []))] b 0 (ts a 0 (.agg #[iU (fJ ((Kv.look E (ak id)).getD [])),iU (jr ((Kv.look E (ak id)).getD []))]) [iU (fJ ((Kv.look E (ak id)).getD [])),iU (jr ((Kv.look E (ak id)).getD []))] [iU (fJ ((Kv.look E (ak id)).getD [])),iU (jr ((Kv.look E (ak id)).getD []))] ?_))))));intro r Y C;replace A:=At.cell A a C p d (by decide);replace b:=b.chg C (show g11≠g2 by omega);have a:=Y;refine af (aa (ay (aA (.agg #[iU (fJ ((Kv.look E (ak id)).getD [])),iU (jr ((Kv.look E (ak id)).getD []))]) (rsc (T:=73) 4 (lr a 0)) ?_)));exact⟨rfl,_,A.sx,A.km,A.cc⟩
theorem gR(h:Sx B w K g E W n N)(hid:0<=id/\id < 18446744073709551616)(hn:n+5<=4000000000000000000)(C:N+5<=100000000):Calls Tryz.prog 55 #[pg g,.int .u64 id,.agg #[.int .u64 x,.int .u64 y]] w (SxE B w K g (qn E id x y) W (n+1) (N+2) (.tuple #[])):=by
 have A:=h.at
 refine ax (n:=19) Tryz.func55 rfl ?_
 refine ae (ah (ta 5 [iU x,iU y] 73 (pg) ?_));intro v1 g2 a m B;obtain⟨s,b,A⟩:=A.al m B;refine af (aa (ae (ae (ah (tlr 6 [iU x,iU y] a 0 (t 7 (.agg #[iU 0,iU 0]) ?_))))));by_cases c3:x=0/\y=0
 ·refine tr 8 (bT) (D1 (decide_eq_true c3)) (af (aa (bJ (ae (ah (t 9 (pg g) (t 10 (iU id) (tc 11 83 #[iU id] (pD hid) ?_))))))));rintro _ v6 ⟨l,rfl,k,B⟩;refine⟨_,rfl,?_⟩;replace A:=A.keep B;replace a:=a.keep B;refine tc 12 112 #[pg g,l] (xdel A.sx k (by have:=yQ id;omega) (by omega) (by omega)) ?_
  rintro _ u ⟨rfl,v,S,j,d⟩;refine⟨_,rfl,?_⟩;obtain⟨a,b⟩:=fq a b j d;replace k:=A.byu k d;replace A:=A.op S j d;clear k;refine af (aa (ay (dD (aA (.tuple #[]) (rs0) ?_))));rw[show qn E id x y=_ from if_pos c3];exact⟨rfl,_,A.sx,A.km,A.cc⟩
 ·refine tr 8 (bF) (D1 (decide_eq_false c3)) (af (aa (aZ (aM (aa ?_)))));replace A:=A.drew;replace a:=a.drew;refine aO (fun r=>Blk r g2 [iU x,iU y] 73) (fun _=>false) a ?_
  refine z 0 13 (pg g) (z 1 14 (iU id) (zlr 3 16 [iU x,iU y] (fun _ h=>h) 0 (zc 2 15 83 #[iU id] (pD hid) ?_)));rintro _ v11 ⟨i,rfl,e,B⟩;replace A:=A.keep B;replace a:=a.keep B;refine⟨_,rfl,a,?_⟩;refine zc 4 17 113 #[.agg #[iU x,iU y]] (zO) ?_
  rintro _ p ⟨f,rfl,c,B⟩;replace A:=A.keep B;replace a:=a.keep B;replace e:=aT e B;refine⟨_,rfl,a,?_⟩;refine zc 5 18 15 #[pg g,i,f] (rT A.sx e c (by omega) (by omega)) ?_
  rintro _ o ⟨rfl,q,S,j,d⟩;obtain⟨a,b⟩:=fq a b j d;replace e:=A.byu e d;replace c:=A.byu c d;replace A:=A.op S j d;clear e;clear c;refine⟨_,rfl,a,?_⟩;refine aG (bY (.tuple #[]) (rs0) ?_);rw[show qn E id x y=_ from if_neg c3];exact⟨rfl,_,A.sx,A.km,A.cc⟩
def gY(E:aC)(id k:Int):Int:=if ¬ isA id then 92 else if ¬ fP (bN E id) k then 91 else 0
def kj(E:aC)(id k:Int):aC:=if gY E id k=0 then qn E id (bN E id+k) (dy E id) else E
def dk(E:aC)(a b k:Int):Int:=if ¬ isA a\/¬ isA b then 92 else if bN E a < k then 90 else if a=b then 0 else if ¬ fP (bN E b) k then 91 else 0
def dI(E:aC)(a b k:Int):aC:=if dk E a b k=0/\a≠b then qn (qn E a (bN E a - k) (dy E a)) b (bN E b+k) (dy E b) else E
theorem zA(h:Sx B w K g E W n N)(hid:0<=id/\id < 18446744073709551616)(hk:0<=k/\k < 18446744073709551616)(hn:n+10<=4000000000000000000)(r:N+10<=100000000):Calls Tryz.prog 17 #[pg g,.int .u64 id,.int .u64 k] w (SxF B w K g (kj E id k) W n N (.int .i64 (gY E id k))):=by
 have A:=h.at
 refine ax (n:=27) Tryz.func17 rfl ?_
 refine ae (ah (t 6 (iI 0) (af (aa (ae (ae (ah (t 8 (iU id) ?_))))))));by_cases c1:isA id
 ·refine tc 9 53 #[iU id] (fE hid (decide_eq_true c1)) ?_
  rintro _ v2 ⟨rfl,B⟩;refine⟨_,rfl,?_⟩;replace A:=A.keep B;refine t 10 (bF) (af (aa (aZ (aM (aa (ae (ah (t 11 (pg g) (t 12 (iU id) (tc 13 30 #[pg g,iU id] (eR A.sx hid (by omega) (by omega)) ?_))))))))));rintro _ v4 ⟨rfl,o,S,f,e⟩;refine⟨_,rfl,?_⟩;replace A:=A.op S f e;refine ta 7 [iU 0,iU 0] 73 (pg) ?_
  intro v5 g6 a i B;obtain⟨d,b,A⟩:=A.al i B;refine ts a 0 (.agg #[iU (bN E id),iU (dy E id)]) [iU (bN E id),iU (dy E id)] [iU (bN E id),iU (dy E id)] ?_
  intro p Y C;replace A:=At.cell A a C d b (by decide);have a:=Y;refine af (aa (ae (ae (ah (tlr 14 [iU (bN E id),iU (dy E id)] a 0 (t 15 (iU k) ?_))))));by_cases c:fP (bN E id) k
  ·refine tc 16 54 #[.agg #[iU (bN E id),iU (dy E id)],iU k] (iP (h.pV _) hk (decide_eq_true c)) ?_
   rintro _ v9 ⟨rfl,B⟩;refine⟨_,rfl,?_⟩;replace A:=A.keep B;replace a:=a.keep B;refine t 17 (bF) (af (aa (aD [(0,pg g),(1,iU id),(2,iU k),(6,iI 0),(7,pg g6),(17,bF)] (aZ (aM (aa (ae (ah (t 18 (pg g6) (tl 19 (iU (bN E id)) a 0 (t 20 (iU k) (tq 21 (iU (IntKind.u64.wrap ((bN E id)+k))) (iU ((bN E id)+k)) (wu (by have:=h.pV id;have q:=c;unfold fP at q;omega)) (t 22 (pg g6) (ts a 0 (iU ((bN E id)+k)) [iU ((bN E id)+k)] [iU ((bN E id)+k),iU (dy E id)] ?_))))))))))))));intro v10 Y C;replace A:=At.cell A a C d b (by decide);have a:=Y;refine af (aa (ae (ah (t 23 (pg g) (t 24 (iU id) (tlr 25 [iU ((bN E id)+k),iU (dy E id)] a 0 (tc 26 55 #[pg g,iU id,.agg #[iU ((bN E id)+k),iU (dy E id)]] (gR A.sx hid (by omega) (by omega)) ?_)))))));rintro _ v12 ⟨rfl,l,S,f,e⟩;refine⟨_,rfl,?_⟩;obtain⟨a,b⟩:=fq a b f e;replace A:=A.op S f e;refine af (aa (ae (ah (t 6 (iI 0) (af (aa (ay (aA (iI 0) (rs1 6) ?_))))))))
   have e1:gY E id k=0:=by first | (simp[gY,c1,c];done) | (subst_vars;simp_all [gY])
   have e2:kj E id k=qn E id ((bN E id)+k) (dy E id):=by simp[kj,e1,c1,c]
   rw[e1,e2];exact⟨rfl,_,_,_,A.sx,by omega,by omega,A.km,A.cc⟩
  ·refine tc 16 54 #[.agg #[iU (bN E id),iU (dy E id)],iU k] (iP (h.pV _) hk (decide_eq_false c)) ?_
   rintro _ j ⟨rfl,B⟩;refine⟨_,rfl,?_⟩;replace A:=A.keep B;replace a:=a.keep B;refine t 17 (bT) (af (aa (aD [(0,pg g),(1,iU id),(2,iU k),(6,iI 0),(7,pg g6),(17,bT)] (bJ (ae (ah (t 6 (iI 91) (af (aa (ay (dD (aA (iI 91) (rs1 6) ?_))))))))))))
   have e1:gY E id k=91:=by first | (simp[gY,c1,c];done) | (subst_vars;simp_all [gY])
   have e2:kj E id k=E:=by simp[kj,e1,c1,c]
   rw[e1,e2];exact⟨rfl,_,_,_,A.sx,by omega,by omega,A.km,A.cc⟩
 ·refine tc 9 53 #[iU id] (fE hid (decide_eq_false c1)) ?_
  rintro _ m ⟨rfl,B⟩;refine⟨_,rfl,?_⟩;replace A:=A.keep B;refine t 10 (bT) (af (aa (bJ (ae (ah (t 6 (iI 92) (af (aa (ay (dD (aA (iI 92) (rs1 6) ?_)))))))))))
  have e1:gY E id k=92:=by first | (simp[gY,c1];done) | (subst_vars;simp_all [gY])
  have e2:kj E id k=E:=by simp[kj,e1,c1]
  rw[e1,e2];exact⟨rfl,_,_,_,A.sx,by omega,by omega,A.km,A.cc⟩
theorem iu{a b:Int}(h:Sx B w K g E W n N)(u:0<=a/\a < 18446744073709551616)(hb:0<=b/\b < 18446744073709551616)(hk:0<=k/\k < 18446744073709551616)(hn:n+10<=4000000000000000000)(T:N+10<=100000000):Calls Tryz.prog 65 #[pg g,.int .u64 a,.int .u64 b,.int .u64 k] w (SxF B w K g (dI E a b k) W n N (.int .i64 (dk E a b k))):=by
 have A:=h.at
 refine ax (n:=54) Tryz.func65 rfl ?_
 refine ae (ah (t 8 (iI 0) (af (aa (ae (ae (ah (t 11 (iU a) ?_))))))));by_cases c1:isA a
 ·refine tc 12 53 #[iU a] (fE u (decide_eq_true c1)) ?_
  rintro _ v2 ⟨rfl,B⟩;refine⟨_,rfl,?_⟩;replace A:=A.keep B;refine t 13 (bF) (t 14 (bF) (t 15 (iU b) ?_));by_cases c3:isA b
  ·refine tc 16 53 #[iU b] (fE hb (decide_eq_true c3)) ?_
   rintro _ v4 ⟨rfl,B⟩;refine⟨_,rfl,?_⟩;replace A:=A.keep B;refine t 17 (bF) (t 18 (bF) (af (aa (aD [(0,pg g),(1,iU a),(2,iU b),(3,iU k),(8,iI 0),(18,bF)] (aZ (aM (aa (ae (ah (t 19 (pg g) (t 20 (iU a) (tc 21 30 #[pg g,iU a] (eR A.sx u (by omega) (by omega)) ?_))))))))))));rintro _ v6 ⟨rfl,R,S,o,m⟩;refine⟨_,rfl,?_⟩;replace A:=A.op S o m;refine ta 9 [iU 0,iU 0] 73 (pg) ?_
   intro Q g8 d v B;obtain⟨s,f,A⟩:=A.al v B;refine ts d 0 (.agg #[iU (bN E a),iU (dy E a)]) [iU (bN E a),iU (dy E a)] [iU (bN E a),iU (dy E a)] ?_
   intro v9 Y C;replace A:=At.cell A d C s f (by decide);have d:=Y;refine af (aa (ae (ae (ah (t 22 (pg g8) (tl 23 (iU (bN E a)) d 0 (t 24 (iU k) ?_)))))));by_cases i:(bN E a:Int) < k
   ·refine tq 25 (.bool (decide ((bN E a:Int) < k))) (bT) (congrArg Value.bool (decide_eq_true i)) (af (aa (bJ (ae (ah (t 8 (iI 90) (af (aa (ay (dD (aA (iI 90) (rs1 8) ?_)))))))))))
    have e1:dk E a b k=90:=by first | (simp[dk,c1,i,c3];done) | (subst_vars;simp_all [dk])
    have e2:dI E a b k=E:=by simp[dI,e1,c1,i,c3]
    rw[e1,e2];exact⟨rfl,_,_,_,A.sx,by omega,by omega,A.km,A.cc⟩
   ·refine tq 25 (.bool (decide ((bN E a:Int) < k))) (bF) (congrArg Value.bool (decide_eq_false i)) (af (aa (aZ (aM (aa (ae (ae (ah (t 26 (iU a) (t 27 (iU b) ?_))))))))));by_cases l:(a:Int)=b
    ·refine tq 28 (.bool ((a:Int) == b)) (bT) (congrArg Value.bool (beq_iff_eq.2 l)) (af (aa (bJ (ae (ah (t 8 (iI 0) (af (aa (aD [(0,pg g),(1,iU a),(2,iU b),(3,iU k),(8,iI 0),(9,pg g8)] (ay (dD (aA (iI 0) (rs1 8) ?_))))))))))))
     have e1:dk E a b k=0:=by first | (simp[dk,c1,i,l,c3];done) | (subst_vars;simp_all [dk])
     have e2:dI E a b k=E:=by simp[dI,e1,c1,i,l,c3]
     rw[e1,e2];exact⟨rfl,_,_,_,A.sx,by omega,by omega,A.km,A.cc⟩
    ·refine tq 28 (.bool ((a:Int) == b)) (bF) (congrArg Value.bool (beq_eq_false_iff_ne.2 l)) (af (aa (aZ (aM (aa (ae (ah (t 29 (pg g) (t 30 (iU b) (tc 31 30 #[pg g,iU b] (eR A.sx hb (by omega) (by omega)) ?_))))))))));rintro _ y ⟨rfl,z,S,o,m⟩;refine⟨_,rfl,?_⟩;obtain⟨d,f⟩:=fq d f o m;replace A:=A.op S o m;have x:=d.lt;refine ta 10 [iU 0,iU 0] 73 (pg) ?_
     intro F g15 c r B;obtain⟨p,e,A⟩:=A.al r B;replace d:=d.keep B;refine ts c 0 (.agg #[iU (bN E b),iU (dy E b)]) [iU (bN E b),iU (dy E b)] [iU (bN E b),iU (dy E b)] ?_
     intro D Y C;replace A:=At.cell A c C p e (by decide);replace d:=d.chg C (show g8≠g15 by omega);have c:=Y;refine af (aa (aD [(0,pg g),(1,iU a),(2,iU b),(3,iU k),(8,iI 0),(9,pg g8),(10,pg g15)] (ae (ae (ah (tlr 32 [iU (bN E b),iU (dy E b)] c 0 (t 33 (iU k) ?_)))))));by_cases j:fP (bN E b) k
     ·refine tc 34 54 #[.agg #[iU (bN E b),iU (dy E b)],iU k] (iP (h.pV _) hk (decide_eq_true j)) ?_
      rintro _ O ⟨rfl,B⟩;refine⟨_,rfl,?_⟩;replace A:=A.keep B;replace d:=d.keep B;replace c:=c.keep B;refine t 35 (bF) (af (aa (aZ (aM (aa (ae (ah (t 36 (pg g8) (tl 37 (iU (bN E a)) d 0 (t 38 (iU k) (tq 39 (iU (IntKind.u64.wrap ((bN E a) - k))) (iU ((bN E a) - k)) (wu (by have:=h.pV a;have:=h.pV b;have q:=j;unfold fP at q;omega)) (t 40 (pg g8) (ts d 0 (iU ((bN E a) - k)) [iU ((bN E a) - k)] [iU ((bN E a) - k),iU (dy E a)] ?_)))))))))))));intro L Y C;replace A:=At.cell A d C s f (by decide);replace c:=c.chg C (show g15≠g8 by omega);have d:=Y;refine af (aa (ae (ah (t 41 (pg g15) (tl 42 (iU (bN E b)) c 0 (t 43 (iU k) (tq 44 (iU (IntKind.u64.wrap ((bN E b)+k))) (iU ((bN E b)+k)) (wu (by have:=h.pV a;have:=h.pV b;have q:=j;unfold fP at q;omega)) (t 45 (pg g15) (ts c 0 (iU ((bN E b)+k)) [iU ((bN E b)+k)] [iU ((bN E b)+k),iU (dy E b)] ?_)))))))));intro v20 Y C;replace A:=At.cell A c C p e (by decide);replace d:=d.chg C (show g8≠g15 by omega);have c:=Y;refine af (aa (aD [(0,pg g),(1,iU a),(2,iU b),(8,iI 0),(9,pg g8),(10,pg g15)] (ae (ah (t 46 (pg g) (t 47 (iU a) (tlr 48 [iU ((bN E a) - k),iU (dy E a)] d 0 (tc 49 55 #[pg g,iU a,.agg #[iU ((bN E a) - k),iU (dy E a)]] (gR A.sx u (by omega) (by omega)) ?_))))))));rintro _ M ⟨rfl,G,S,o,m⟩;refine⟨_,rfl,?_⟩;obtain⟨d,f⟩:=fq d f o m;obtain⟨c,e⟩:=fq c e o m;replace A:=A.op S o m;refine af (aa (ae (ah (t 50 (pg g) (t 51 (iU b) (tlr 52 [iU ((bN E b)+k),iU (dy E b)] c 0 (tc 53 55 #[pg g,iU b,.agg #[iU ((bN E b)+k),iU (dy E b)]] (gR A.sx hb (by omega) (by omega)) ?_)))))));rintro _ v24 ⟨rfl,P,S,o,m⟩;refine⟨_,rfl,?_⟩;obtain⟨d,f⟩:=fq d f o m;obtain⟨c,e⟩:=fq c e o m;replace A:=A.op S o m;refine af (aa (ae (ah (t 8 (iI 0) (af (aa (ay (aA (iI 0) (rs1 8) ?_))))))))
      have e1:dk E a b k=0:=by first | (simp[dk,c1,i,l,j,c3];done) | (subst_vars;simp_all [dk])
      have e2:dI E a b k=qn (qn E a ((bN E a) - k) (dy E a)) b ((bN E b)+k) (dy E b):=by simp[dI,e1,c1,i,l,j,c3]
      rw[e1,e2];exact⟨rfl,_,_,_,A.sx,by omega,by omega,A.km,A.cc⟩
     ·refine tc 34 54 #[.agg #[iU (bN E b),iU (dy E b)],iU k] (iP (h.pV _) hk (decide_eq_false j)) ?_
      rintro _ I ⟨rfl,B⟩;refine⟨_,rfl,?_⟩;replace A:=A.keep B;replace d:=d.keep B;replace c:=c.keep B;refine t 35 (bT) (af (aa (bJ (ae (ah (t 8 (iI 91) (af (aa (ay (dD (aA (iI 91) (rs1 8) ?_)))))))))))
      have e1:dk E a b k=91:=by first | (simp[dk,c1,i,l,j,c3];done) | (subst_vars;simp_all [dk])
      have e2:dI E a b k=E:=by simp[dI,e1,c1,i,l,j,c3]
      rw[e1,e2];exact⟨rfl,_,_,_,A.sx,by omega,by omega,A.km,A.cc⟩
  ·refine tc 16 53 #[iU b] (fE hb (decide_eq_false c3)) ?_
   rintro _ H ⟨rfl,B⟩;refine⟨_,rfl,?_⟩;replace A:=A.keep B;refine t 17 (bT) (t 18 (bT) (af (aa (aD [(0,pg g),(1,iU a),(2,iU b),(3,iU k),(8,iI 0),(18,bT)] (bJ (ae (ah (t 8 (iI 92) (af (aa (ay (dD (aA (iI 92) (rs1 8) ?_)))))))))))))
   have e1:dk E a b k=92:=by first | (simp[dk,c1,c3];done) | (subst_vars;simp_all [dk])
   have e2:dI E a b k=E:=by simp[dI,e1,c1,c3]
   rw[e1,e2];exact⟨rfl,_,_,_,A.sx,by omega,by omega,A.km,A.cc⟩
 ·refine tc 12 53 #[iU a] (fE u (decide_eq_false c1)) ?_
  rintro _ J ⟨rfl,B⟩;refine⟨_,rfl,?_⟩;replace A:=A.keep B;refine t 13 (bT) (t 14 (bT) (tn 15 (tn 16 (tn 17 (t 18 (bT) (af (aa (aD [(0,pg g),(1,iU a),(2,iU b),(3,iU k),(8,iI 0),(18,bT)] (bJ (ae (ah (t 8 (iI 92) (af (aa (ay (dD (aA (iI 92) (rs1 8) ?_)))))))))))))))))
  have e1:dk E a b k=92:=by first | (simp[dk,c1];done) | (subst_vars;simp_all [dk])
  have e2:dI E a b k=E:=by simp[dI,e1,c1]
  rw[e1,e2];exact⟨rfl,_,_,_,A.sx,by omega,by omega,A.km,A.cc⟩
end
end Bk
end Go.Proofs.YtgdohcdlkonhiaaGreatDoor
