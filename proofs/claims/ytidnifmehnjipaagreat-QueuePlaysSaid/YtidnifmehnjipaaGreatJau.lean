import Derived.Test.YtidnifmehnjipaaGreatJar
import Derived.Test.YtidnifmehnjipaaGreatJas
import Derived.Test.YtidnifmehnjipaaGreatJat
set_option maxRecDepth 100000
set_option maxHeartbeats 8000000
namespace Go.Proofs.YtidnifmehnjipaaGreat
section
namespace Pw
open Go.RowKit Go.Lib Pg Lim Gl Kv Bk
section
variable {w:World}{z X:Nat->Prop}
theorem RS.min{q n:Nat}{E:ay}(h:RS w z X q E [] n):∃ X',RS w z X' q E [] n/\(∀ b,X' b->X b)/\∀ b,X' b->∃ cs t,Blk w b cs t/\t≠5:=by
 obtain⟨l,j,hb,d,hw⟩:=h.ex;refine⟨fun b=>X b/\∃ cs t,Blk w b cs t/\t≠5,⟨⟨l,j,hb,⟨d.ex,fun b m c e=>⟨d.blk b m c e,?_⟩⟩,⟨hw.ex.imp id ?_⟩⟩,⟨h.xq,_,_,hb,by decide⟩,fun b hx=>h.xz b hx.1,h.dA,h.small⟩,fun _ h=>h.1,fun _ h=>h.2⟩
 ·obtain⟨es,P,_⟩:=d.ex;rcases P.ex with⟨e',_⟩ | ⟨b',c',e',_,a⟩
  ·rw[e'] at e;cases e
  ·rw[e'] at e
   cases e;obtain⟨cs,k⟩:=a.kind;exact⟨cs,_,k,by decide⟩
 ·rintro⟨b,c,g,e,hx,a,p⟩;obtain⟨cs,k⟩:=a.kind;exact⟨b,c,g,e,⟨hx,cs,_,k,by decide⟩,a,fun i v F o f=>by simp at f⟩
structure Rx(B:Nat)(w:World)(X:Nat->Prop)(q:Nat)(E:ay)(n:Nat):Prop where
 rs:RS w (B <= ·) X q E [] n
 kind:∀ b,X b->∃ cs t,Blk w b cs t/\t≠5
 lo:B<=w.heap.size
structure RxE(B:Nat)(w:World)(X:Nat->Prop)(q:Nat)(E:ay)(n:Nat)(r:Value)(e:Ending)(w':World):Prop where
 ret:e=.returned r
 ex:∃ X',Rx B w' X' q E n/\(∀ b,X' b->X b\/w.heap.size<=b)/\Chg X w w'
structure RxF(B:Nat)(w:World)(X:Nat->Prop)(q:Nat)(E:ay)(n m:Nat)(r:Value)(e:Ending)(w':World):Prop where
 ret:e=.returned r
 ex:∃ X' n',Rx B w' X' q E n'/\n'<=n+m/\(∀ b,X' b->X b\/w.heap.size<=b)/\Chg X w w'
structure Ar(B:Nat)(w0:World)(X0:Nat->Prop)(w:World)(X:Nat->Prop)(q:Nat)(E:ay)(n:Nat):Prop where
 rx:Rx B w X q E n
 xm:∀ b,X b->X0 b\/w0.heap.size<=b
 cc:Chg X0 w0 w
end
section
variable {B:Nat} {w0 w w':World} {X0 X X':Nat->Prop} {q:Nat} {E E':ay} {n n':Nat}
section
variable {Y X0 X:Nat->Prop}{x:Nat}{cs:List Value}{v kv:Value}{l k:List Int}
theorem Rx.at(h:Rx B w X q E n):Ar B w X w X q E n:=⟨h,fun _ h=>.inl h,Chg.refl _ _⟩
theorem Rx.lt(h:Rx B w X q E n){b:Nat}(hb:X b):b < w.heap.size:=(h.rs.xz b hb).2
theorem Rx.keep(h:Rx B w X q E n)(b:Below w.heap.size w w'):Rx B w' X q E n:=⟨h.rs.keep b,fun x hx=>by obtain⟨cs,t,k,ht⟩:=h.kind x hx;exact⟨cs,t,k.keep b,ht⟩,Nat.le_trans h.lo b.size⟩
theorem Rx.off(h:Rx B w X q E n)(C:Chg Y w w')(a:∀ b,Y b->¬ X b)(c:∀ b,Y b->∀ cs,¬ Blk w b cs 5):Rx B w' X q E n :=
 ⟨h.rs.chg C a c,fun x hx=>by obtain⟨cs,t,k,d⟩:=h.kind x hx;exact⟨cs,t,k.chg C (fun hy=>a x hy hx),d⟩,Nat.le_trans h.lo C.size⟩
theorem Ar.keep(h:Ar B w0 X0 w X q E n)(b:Below w.heap.size w w'):Ar B w0 X0 w' X q E n:=⟨h.rx.keep b,h.xm,h.cc.trans (Chg.of (F:=fun _=>False) b) (fun _ _ h=>h.elim)⟩
theorem Ar.drew(h:Ar B w0 X0 w X q E n):Ar B w0 X0 w.drew X q E n:=h.keep (Below.refl _ _).drew
theorem Ar.size(h:Ar B w0 X0 w X q E n):w0.heap.size<=w.heap.size:=h.cc.size
theorem Ar.cell{t:TypeId}(h:Ar B w0 X0 w X q E n)(Y:Blk w x cs t)(C:Chg (·=x) w w')(hx:w0.heap.size<=x)(f:¬ X x)(d:t≠5):Ar B w0 X0 w' X q E n :=
 ⟨h.rx.off C (fun b e hb=>f ((show b=x from e)▸hb)) (fun b e c k=>by have a:b=x:=e;subst a;exact d (Y.eq k).2),h.xm,h.cc.trans C (fun b hb e=>by have a:b=x:=e;omega)⟩
theorem Ar.op(h:Ar B w0 X0 w X q E n)(e:Rx B w' X' q E' n')(d:∀ b,X' b->X b\/w.heap.size<=b)(hc:Chg X w w'):Ar B w0 X0 w' X' q E' n' :=
 ⟨e,fun b hb=>(d b hb).elim (h.xm b) (fun a=>.inr (Nat.le_trans h.cc.size a)),h.cc.trans hc (fun b hb c=>(h.xm b c).elim id (fun a=>by omega))⟩
theorem Ar.new(h:Ar B w0 X0 w X q E n)(hx:w.heap.size<=x):¬ X x:=fun hk=>by have:=h.rx.lt hk;omega
theorem Ar.al{B:Nat}{w0 w w':World}{q:Nat}{E:ay}{n:Nat}(h:Ar B w0 X0 w X q E n)(hx:w.heap.size<=x)(b:Below w.heap.size w w'):w0.heap.size<=x/\¬ X x/\Ar B w0 X0 w' X q E n:=⟨Nat.le_trans h.size hx,h.new hx,h.keep b⟩
theorem Ar.byu(h:Ar B w0 X0 w X q E n)(hv:ByU w v l)(C:Chg X w w'):ByU w' v l:=hv.chg C h.rx.kind
theorem Rx.made(h:Rx B w X q E n)(r:RS w' (B <= ·) X' q E' [] n')(c:∀ b,X' b->X b\/w.heap.size<=b)(d:w.heap.size<=w'.heap.size):∃ Y,Rx B w' Y q E' n'/\(∀ b,Y b->X b\/w.heap.size<=b):=by
 obtain⟨Y,a,f,e⟩:=RS.min r;exact⟨Y,⟨a,e,Nat.le_trans h.lo d⟩,fun b hb=>c b (f b hb)⟩
theorem Rx.bq(h:Rx B w X q E n)(hv:ByU w v l):BK w (· = q) v l:=fun _ hc=>(hv.chg hc (fun b e=>by
 have e':b=q:=e;subst e'
 exact h.kind _ h.rs.xq)).byt
theorem Rx.bs(h:Rx B w X q E n)(hv:ByU w v l)(x:Value):By (w.setCell ⟨q,2,none⟩ x) v l:=h.bq hv _ ((Chg.refl (fun y=>y=q) w).cell (.inl rfl) _)
theorem gJ{vv:Value}{v:List Int}(h:Rx B w X q E n)(a:ByU w kv k)(c:ByU w vv v)(hn:n<=4000000000000000000)(hm:E.length<=1000000)(d:eH k v=0) :
  Calls Tryz.prog 8 #[pg q,kv,vv] w (RxE B w X q (put E k v) (n+1) (.int .i64 0)):=by
 refine(rset h.rs (fun b hb=>Nat.le_trans h.lo hb) a.byt c.byt (h.bs a _) (h.bs c _) hn hm).mono ?_
 rw[d,if_pos rfl];rintro e i ⟨rfl,j,R,f,_,C⟩;obtain⟨Y,S,g⟩:=h.made R f C.size;exact⟨rfl,Y,S,g,C.mono (fun b _ hb=>hb.1)⟩
theorem vz(h:Rx B w X q E n)(c:ByU w kv k)(a:k.length<=1000000000)(hn:n<=4000000000000000000)(hm:E.length<=1000000) :
  Calls Tryz.prog 55 #[pg q,kv] w (RxE B w X q (rem E k) (n+1) (.bool (Kv.look E k).isSome)):=by
 refine(rdel h.rs (fun b hb=>Nat.le_trans h.lo hb) c.byt (h.bs c _) a hn hm).mono ?_
 rintro e g ⟨rfl,i,R,d,_,C⟩;obtain⟨Y,S,f⟩:=h.made R d C.size;exact⟨rfl,Y,S,f,C.mono (fun b _ hb=>hb.1)⟩
structure RGetE(B:Nat)(w:World)(X:Nat->Prop)(q:Nat)(E:ay)(n:Nat)(k:List Int)(b:Bool)(e:Ending)(w':World):Prop where
 ex:∃ v,e=.returned (.tuple #[v,.bool b])/\ByU w' v ((Kv.look E k).getD [])/\∃ X',Rx B w' X' q E n/\(∀ b,X' b->X b\/w.heap.size<=b)/\Chg X w w'
theorem lA{b:Bool}(h:Rx B w X q E n)(c:ByU w kv k)(a:k.length<=1000000000)(hn:n<=4000000000000000000)(hm:E.length<=1000000)(hb:(Kv.look E k).isSome=b) :
  Calls Tryz.prog 98 #[pg q,kv] w (RGetE B w X q E (n+1) k b):=by
 subst hb;refine(rget h.rs c.byt a (h.bs c _) hn hm).mono ?_
 rintro e g ⟨v,rfl,O,R,C⟩;obtain⟨Y,S,f⟩:=h.made R (fun _ h=>.inl h) C.size;exact⟨v,rfl,ByU.of O,Y,S,f,C.mono (fun b _ e=>by have d:b=q:=e;subst d;exact h.rs.xq)⟩
end
end
theorem gk (E:ay) (k:List Int):(rem E k).length<=E.length:=List.length_filter_le _ _
theorem dt (E:ay) (k v:List Int):(put E k v).length<=E.length+1:=by
 have key:∀ F:ay,(F.filter (fun x=>decide (Lt x.1 k))).length+(F.filter (fun x=>decide (Lt k x.1))).length<=F.length:=by
  intro F
  induction F with
  | nil=>simp
  | cons x F ih =>
   by_cases a:Lt x.1 k
   ·rw[List.filter_cons_of_pos (by simpa using a),List.filter_cons_of_neg (by simpa using a.not)];simp only[List.length_cons];omega
   ·rw[List.filter_cons_of_neg (by simpa using a)];have:=List.length_filter_le (fun x:KV=>decide (Lt k x.1)) [x];by_cases b:Lt k x.1
    ·rw[List.filter_cons_of_pos (by simpa using b)];simp only[List.length_cons];omega
    ·rw[List.filter_cons_of_neg (by simpa using b)];simp only[List.length_cons];omega
 unfold put;rw[List.length_append,List.length_cons];exact(by omega:∀ a b c:Nat,a+b<=c->a+(b+1)<=c+1) _ _ _ (key E)
end Pw
end
section
namespace Pw
open Go.RowKit Go.Lib Pg Lim Gl Kv Bk
attribute [local go_sem] Oper.semAt_some
set_option linter.unusedSimpArgs false
set_option linter.unusedVariables false
section
variable {w:World}{k a b:Int}
theorem Cq(c:0<=a/\a < 18446744073709551616)(d:Ky.mkE k a b=false):Calls Tryz.prog 37 #[.agg #[.int .i64 k,.int .u64 a,.int .u64 b]] w fun e w'=>∃ v,e=.returned (.tuple #[v,.int .i64 0])/\ByU w' v (Ky.mk k a b)/\Below w.heap.size w w':=by
 have u:=Ky.kJ (w:=w) (k:=k) (b:=b) c.1 c.2;rw[d] at u;refine u.mono ?_
 rintro e w' ⟨v,rfl,O,B⟩;exact⟨v,rfl,ByU.of O,B⟩
theorem iA(f:0<=a/\a < 18446744073709551616)(d:Ky.mkE k a b=false):Calls Tryz.prog 9 #[.int .i64 k,.int .u64 a,.int .u64 b] w fun e w'=>∃ v,e=.returned v/\ByU w' v (Ky.mk k a b)/\Below w.heap.size w w':=by
 have c:=Below.refl w.heap.size w;refine aC (n:=18) Tryz.func9 rfl ?_
 refine ab (ag (t 6 (.slice none 0 0) (ae (aa (ab (ag (t 10 (iI k) (t 11 (iU a) (t 12 (iU b) (t 13 (.agg #[iI k,iU a,iU b]) (tc 14 37 #[.agg #[iI k,iU a,iU b]] (Cq f d) ?_)))))))))));rintro _ v1 ⟨v0,rfl,g,B⟩;refine⟨_,rfl,?_⟩;replace c:=ai c B;refine t 9 (.tuple #[v0,iI 0]) (t 15 (v0) (t 16 (iI 0) (t 7 (v0) (t 8 (iI 0) (ae (aa (aG [(6,.slice none 0 0),(7,v0)] (ab (ag (t 17 (v0) (t 6 (v0) (ae (aa (aF (aE (v0) (rs1 6 (by kernel_rfl) (by kernel_rfl)) ?_)))))))))))))));exact⟨_,rfl,g,c⟩
theorem byu1{g:Nat}{x:Int}(hx:0<=x/\x < 256)(X:Blk w g [.int .u8 x] 5):ByU w (sg 1 g) [x]:=by
 refine⟨⟨_,1,rfl,Nat.le_refl _,by decide,fun e=>(by cases e),(fun y hy=>by simp at hy;subst hy;exact hx),.inr ⟨g,0,rfl,X.lt,fun i y hi=>?_⟩⟩,fun b o n c e=>by cases e;exact⟨_,_,X.blk⟩⟩
 match i,hi with
 | 0,hi=>cases hi;exact X.cell (i:=0) rfl
structure PrfE(B:Nat)(w:World)(X:Nat->Prop)(q:Nat)(E:ay)(n:Nat)(p:List Int)(e:Ending)(w':World):Prop where
 ex:∃ v es,e=.returned v/\Pq w' w.heap.size (B <= ·) v es/\es.map En.kl2=E.filter (fun x=>decide (p <+: x.1))/\∃ X' n',Rx B w' X' q E n'/\n'<=n+1+E.length/\(∀ b,X' b->X b\/w.heap.size<=b)/\Chg (·=q) w w'
end
section
variable {B:Nat} {w:World} {X:Nat->Prop} {q:Nat} {E:ay} {n:Nat}
section
variable {pv:Value}{p:List Int}
theorem As{m:Nat}(h:Rx B w X q E n)(f:ByU w pv p)(a:p.length<=1000000000)(hn:n<=3000000000000000000)(hm:E.length<=m)(b:m<=1000000):Calls Tryz.prog 156 #[pg q,pv,.int .i64 (m:Nat)] w (PrfE B w X q E n p):=by
 refine(Ej h.rs (h.bq f) a hn (by omega) b).mono ?_
 rintro e g ⟨v,es,rfl,P,he,R,C⟩
 have c:(E.filter (fun x=>decide (p <+: x.1))).length<=E.length:=List.length_filter_le _ _
 have e2:(E.filter (fun x=>decide (p <+: x.1))).take m=E.filter (fun x=>decide (p <+: x.1)):=List.take_of_length_le (Nat.le_trans c hm);rw[e2] at he R;obtain⟨Y,S,d⟩:=h.made R (fun _ h=>.inl h) C.size;exact⟨v,es,rfl,P,he,Y,_,S,Nat.add_le_add_left c _,d,C⟩
theorem all9(h:Rx B w X q E n)(j:ByU w pv p)(c:p.length<=1000000000)(hn:n<=3000000000000000000)(hm:E.length<=1000000):Calls Tryz.prog 109 #[pg q,pv] w (PrfE B w X q E n p):=by
 obtain⟨r,o,hb,g,hw⟩:=h.rs.ex;obtain⟨b,f,a⟩:=g.ex;obtain⟨k,lc,rfl⟩:=f.shape
 have hlen:b.length=E.length:=by rw[<- a,List.length_map]
 clear g hw f a;obtain⟨m,e⟩:∃ m,b.length=m:=⟨_,rfl⟩
 rw[e] at hb hlen;refine aC (n:=13) Tryz.func109 rfl ?_
 refine ab (ag (t 4 (.slice none 0 0) (ae (aa (ab (ag (t 5 (pg q) (t 6 (pv) (t 7 (pg q) (t 8 (pg q) (t 9 (pg q) (tl 10 (.slice k m lc) hb 0 (t 11 (iI ((m:Nat):Int)) (tc 12 156 #[pg q,pv,iI ((m:Nat):Int)] (As h j c hn (by omega) (by omega)) ?_))))))))))))));rintro _ v1 ⟨v,es,rfl,P,he,Y,l,S,d,i,C⟩;refine⟨_,rfl,?_⟩;refine t 4 (v) (ae (aa (aG [(4,v)] (aF (aE (v) (rs1 4 (by kernel_rfl) (by kernel_rfl)) ?_)))));exact⟨_,_,rfl,P,he,Y,l,S,d,i,C⟩
end
end
end Pw
end
section
namespace Rc
open Go.RowKit Go.Lib Pg Lim Gl
section
variable {w:World}{x0 x1 x2 x3 x4 x5:Int}{a6:Option Addr}
theorem vO{B:Nat}(w:World):bz w B (.slice none 0 0) []:=World.ownsRow_nil _ _ _ _
theorem kR:([]:List Int).length<=0:=Nat.le_refl 0
theorem jy{L X:List Int}{a b:Nat}(h:L.length<=a)(h':X.length<=b):(L ++ X).length<=a+b:=by rw[List.length_append];omega
theorem qS(xs:List Int):(xs.flatMap (be 8)).length<=8 * xs.length:=by
 induction xs with
 | nil=>exact Nat.le_refl _
 | cons x r ih=>rw[List.flatMap_cons,List.length_append,aD,List.length_cons];omega
theorem len_d8(x:Int):(dz 1 (cW (fit x))).length<=256:=by
 have:=dS x;rw[mH];omega
theorem wV  :
  Calls Tryz.prog 10 #[.agg #[.int .u64 x0,.int .u64 x1]] w fun e w'=>∃ v,e=.returned v/\bz w' w.heap.size v (thr (pnx (fun o=>([x0,x1]:List Int).getD o 0)) [(0,0),(0,1)] [])/\Below w.heap.size w w':=by
 have b:=Below.refl w.heap.size w;refine aC (n:=9) Tryz.func10 rfl ?_
 refine ab (ag (ta 1 [iU x0,iU x1] 40 (pg) ?_));intro v1 f a j B;replace b:=ai b B;refine t 2 (.slice none 0 0) (ae (aa (ab (ag (t 3 (pg f) (tl 4 (iU x0) a 0 (t 5 (pq f 1) (tl 6 (iU x1) a 1 (ta 7 [iU x0,iU x1] 22 (sg 2) ?_)))))))));intro k h c i B;replace b:=ai b B;replace a:=a.keep B;refine tc 8 38 #[.slice none 0 0,sg 2 h] (ru8 (xs:=[x0,x1]) (vO _) b.size c (Nat.le_trans kR (Nat.le_of_ble_eq_true rfl)) (Nat.le_of_ble_eq_true rfl)) ?_
 rintro _ v6 ⟨d,rfl,m5,Y⟩;refine⟨_,rfl,?_⟩;replace b:=Byt.below Y b (Nat.le_refl _) (Nat.le_refl _);replace a:=Blk.byt a Y (by decide);replace c:=Blk.byt c Y (by decide);have g:=jy kR (qS [x0,x1]);refine t 2 (d) (ae (aa (aF (aE (d) (rs1 2 (by kernel_rfl) (by kernel_rfl)) ?_))));exact⟨_,rfl,by simpa[thr,pnx,dO] using m5,b⟩
theorem om  :
  Calls Tryz.prog 42 #[.agg #[.int .u64 x0,.int .u64 x1,.int .u64 x2,.int .u64 x3,.int .u64 x4,.int .u64 x5]] w fun e w'=>∃ v,e=.returned v/\bz w' w.heap.size v (thr (pnx (fun o=>([x0,x1,x2,x3,x4,x5]:List Int).getD o 0)) [(0,0),(0,1),(0,2),(0,3),(0,4),(0,5)] [])/\Below w.heap.size w w':=by
 have b:=Below.refl w.heap.size w;refine aC (n:=17) Tryz.func42 rfl ?_
 refine ab (ag (ta 1 [iU x0,iU x1,iU x2,iU x3,iU x4,iU x5] 42 (pg) ?_));intro v1 f a j B;replace b:=ai b B;refine t 2 (.slice none 0 0) (ae (aa (ab (ag (t 3 (pg f) (tl 4 (iU x0) a 0 (t 5 (pq f 1) (tl 6 (iU x1) a 1 (t 7 (pq f 2) (tl 8 (iU x2) a 2 (t 9 (pq f 3) (tl 10 (iU x3) a 3 (t 11 (pq f 4) (tl 12 (iU x4) a 4 (t 13 (pq f 5) (tl 14 (iU x5) a 5 (ta 15 [iU x0,iU x1,iU x2,iU x3,iU x4,iU x5] 22 (sg 6) ?_)))))))))))))))));intro k h c i B;replace b:=ai b B;replace a:=a.keep B;refine tc 16 38 #[.slice none 0 0,sg 6 h] (ru8 (xs:=[x0,x1,x2,x3,x4,x5]) (vO _) b.size c (Nat.le_trans kR (Nat.le_of_ble_eq_true rfl)) (Nat.le_of_ble_eq_true rfl)) ?_
 rintro _ v6 ⟨d,rfl,m5,Y⟩;refine⟨_,rfl,?_⟩;replace b:=Byt.below Y b (Nat.le_refl _) (Nat.le_refl _);replace a:=Blk.byt a Y (by decide);replace c:=Blk.byt c Y (by decide);have g:=jy kR (qS [x0,x1,x2,x3,x4,x5]);refine t 2 (d) (ae (aa (aG [(2,d)] (aF (aE (d) (rs1 2 (by kernel_rfl) (by kernel_rfl)) ?_)))));exact⟨_,rfl,by simpa[thr,pnx,dO] using m5,b⟩
theorem yO{g i:Nat}{l:Int}(x:ef w a6 g i l)(r:g<=3000) :
  Calls Tryz.prog 46 #[.agg #[.int .u64 x0,.int .u64 x1,.int .u64 x2,.int .u64 x3,.int .u64 x4,.int .u64 x5,.slice a6 g i]] w fun e w'=>∃ v,e=.returned v/\bz w' w.heap.size v (thr (pnx (fun o=>([x0,x1,x2,x3,x4,x5,l]:List Int).getD o 0)) [(0,0),(0,1),(0,2),(0,3),(0,4),(0,5),(2,6)] [])/\Below w.heap.size w w':=by
 have b:=Below.refl w.heap.size w;refine aC (n:=20) Tryz.func46 rfl ?_
 refine ab (ag (ta 1 [iU x0,iU x1,iU x2,iU x3,iU x4,iU x5,.slice a6 g i] 48 (pg) ?_));intro v1 d a u B;replace b:=ai b B;refine t 2 (.slice none 0 0) (ae (aa (ab ?_)));replace b:=b.drew;replace a:=a.drew;refine bI (fun w'=>Blk w' d [iU x0,iU x1,iU x2,iU x3,iU x4,iU x5,.slice a6 g i] 48) (fun _=>false) a ?_
 refine z 0 3 (pg d) (zl 1 4 (iU x0) (fun _ h=>h) 0 (z 2 5 (pq d 1) (zl 3 6 (iU x1) (fun _ h=>h) 1 (z 4 7 (pq d 2) (zl 5 8 (iU x2) (fun _ h=>h) 2 (z 6 9 (pq d 3) (zl 7 10 (iU x3) (fun _ h=>h) 3 (z 8 11 (pq d 4) (zl 9 12 (iU x4) (fun _ h=>h) 4 (z 10 13 (pq d 5) (zl 11 14 (iU x5) (fun _ h=>h) 5 (z 14 17 (pq d 6) (zlr 15 18 [.slice a6 g i] (fun _ h=>h) 6 (za 12 15 [iU x0,iU x1,iU x2,iU x3,iU x4,iU x5] 22 (sg 6) ?_))))))))))))));intro A m c s B;replace b:=ai b B;replace a:=a.keep B;refine⟨a,?_⟩;refine zc 13 16 38 #[.slice none 0 0,sg 6 m] (ru8 (xs:=[x0,x1,x2,x3,x4,x5]) (vO _) b.size c (Nat.le_trans kR (Nat.le_of_ble_eq_true rfl)) (Nat.le_of_ble_eq_true rfl)) ?_
 rintro _ v6 ⟨k,rfl,m5,Y⟩;replace b:=Byt.below Y b (Nat.le_refl _) (Nat.le_refl _);replace a:=Blk.byt a Y (by decide);replace c:=Blk.byt c Y (by decide);have j:=jy kR (qS [x0,x1,x2,x3,x4,x5]);refine⟨_,rfl,a,?_⟩;refine zc 16 19 104 #[k,.agg #[.slice a6 g i]] (rd8 m5 b.size (Nat.le_trans j (Nat.le_of_ble_eq_true rfl)) (x.keep b) r) ?_
 rintro _ y ⟨f,rfl,p,Y⟩;replace b:=Byt.below Y b (Nat.le_refl _) (Nat.le_refl _);replace a:=Blk.byt a Y (by decide);replace c:=Blk.byt c Y (by decide);clear m5;have q:=jy j (len_d8 l);refine⟨_,rfl,a,?_⟩;refine z 17 2 (f) (bB (aa (aG [(2,f)] (aF (aE (f) (rs1 2 (by kernel_rfl) (by kernel_rfl)) ?_)))));exact⟨_,rfl,by simpa[thr,pnx,dO] using p,b⟩
theorem tH  :
  Calls Tryz.prog 57 #[.int .u64 x0] w fun e w'=>∃ v,e=.returned v/\bz w' w.heap.size v (thr (pnx (fun o=>([x0]:List Int).getD o 0)) [(0,0)] [])/\Below w.heap.size w w':=by
 have b:=Below.refl w.heap.size w;refine aC (n:=6) Tryz.func57 rfl ?_
 refine ab (ag (t 2 (.slice none 0 0) (ae (aa (ab (ag (t 3 (iU x0) (ta 4 [iU x0] 22 (sg 1) ?_))))))));intro v1 d a f B;replace b:=ai b B;refine tc 5 38 #[.slice none 0 0,sg 1 d] (ru8 (xs:=[x0]) (vO _) b.size a (Nat.le_trans kR (Nat.le_of_ble_eq_true rfl)) (Nat.le_of_ble_eq_true rfl)) ?_
 rintro _ v4 ⟨c,rfl,m3,Y⟩;refine⟨_,rfl,?_⟩;replace b:=Byt.below Y b (Nat.le_refl _) (Nat.le_refl _);replace a:=Blk.byt a Y (by decide);have g:=jy kR (qS [x0]);refine t 2 (c) (ae (aa (aF (aE (c) (rs1 2 (by kernel_rfl) (by kernel_rfl)) ?_))));exact⟨_,rfl,by simpa[thr,pnx,dO] using m3,b⟩
end
end Rc
end
end Go.Proofs.YtidnifmehnjipaaGreat
