import Derived.Test.YtpoifdokmjhclaaGreatJyE
set_option maxRecDepth 100000
set_option maxHeartbeats 8000000
namespace Go.Proofs.YtpoifdokmjhclaaGreat
namespace Pt
open Go.RowKit Go.Lib Pg Lim Gl Kv Bk Pw
attribute [local go_sem] Oper.semAt_some
set_option linter.unusedVariables false
set_option linter.unusedSimpArgs false
section
variable {w:World}{k c:Nat}{ρ:Operand->Value}{ao:Option Addr}
theorem Gi:CP 302 #[.int .u64 1] w λe w'=>e=.returned (.int .i64 1)/\w'=w:=AS 1 w (by decide) (by decide)
theorem len_1:CP 242 #[iU 1] w λe w'=>e=.returned (iI 1)/\w'=w:=by
 refine af (n:=8) Tryz.func242 rfl ?_
 refine sr<|tz 1<|nt<|ag<|nk<|sr<|tz 1<|tc 7 302 #[.int .u64 1] (Gi) ?_
 rintro _ v1 ⟨rfl,hw⟩;subst hw;refine⟨_,rfl,tz 1<|nr<|ah (.int .i64 1) (rs1 2) ?_⟩;exact⟨rfl,rfl⟩
theorem Ff:CP 302 #[.int .u64 0] w λe w'=>e=.returned (.int .i64 0)/\w'=w:=AS 0 w (by decide) (by decide)
theorem vT:CP 242 #[iU 0] w λe w'=>e=.returned (iI 0)/\w'=w:=by
 refine af (n:=8) Tryz.func242 rfl ?_
 refine sr<|tz 1<|nt<|ag<|nk<|sr<|tz 1<|tc 7 302 #[.int .u64 0] (Ff) ?_
 rintro _ v1 ⟨rfl,hw⟩;subst hw;refine⟨_,rfl,tz 1<|nr<|ah (.int .i64 0) (rs1 2) ?_⟩;exact⟨rfl,rfl⟩
theorem len_k(hk:k<=1):CP 242 #[.int .u64 ((k:Nat):Int)] w λe w'=>e=.returned (.int .i64 ((k:Nat):Int))/\w'=w:=by
 rcases(show k=0\/k=1 by omega) with rfl | rfl
 ·exact vT
 exact len_1
theorem cv_ku{o:Oper}(hk:k<=1)(ho:∃ u,o.op=.convert 3 118 u/\ρ u=.int .i64 ((k:Nat):Int):=by exact⟨_,rfl,by kernel_rfl⟩):(execOp ρ o).run Tryz.prog w=.ok (.value (.int .u64 ((k:Nat):Int))) w:=by
 obtain⟨u,h,b⟩:=ho;simp only[execOp,h,b];go_simp;rw[IntKind.wrap_u64];omega
theorem ins_k(hk:k<=1):CP 292 #[.slice ao k c,iI 0,iI ((k:Nat):Int)] w λe w'=>e=.returned (.tuple #[])/\w'=w:=by
 refine af (n:=49) Tryz.func292 rfl ?_
 refine sr<|tz 3<|nt<|aB<|bI (λ_=>0) (fun(_:Unit)=>[(2,iI ((k:Nat):Int)),(6,iI 1)]) (λ_ w'=>w'=w) () rfl (by kernel_rfl) ?_
 rintro _ v1 rfl;refine ag<|sr<|tz 2<|tq 12 (.bool (decide ((1:Int) < ((k:Nat):Int)))) (bF) (congrArg Value.bool (decide_eq_false (by omega)))<|nt<|aX<|bQ<|bC<|bC<|dg<|bh (.tuple #[]) (rs0) ?_
 exact⟨rfl,rfl⟩
theorem pdq_k(hk:k<=1):CP 241 #[.slice ao k c,iI 0,iI ((k:Nat):Int),iI ((k:Nat):Int)] w λe w'=>e=.returned (.tuple #[])/\w'=w:=by
 refine af (n:=134) Tryz.func241 rfl ?_
 refine sr<|tz 1<|nx<|tz 1<|nt<|aB<|bI (λ_=>0) (fun(_:Unit)=>[(0,.slice ao k c),(1,iI 0),(2,iI ((k:Nat):Int))]) (λ_ w'=>w'=w) () rfl (by kernel_rfl) ?_
 rintro _ v1 rfl;refine aB<|sr<|tz 2<|tq 21 (iI (IntKind.i64.wrap (((k:Nat):Int) - 0))) (iI (((k:Nat):Int) - 0)) (wi (by omega))<|tz 1<|nt<|ag<|sr<|tz 1<|tq 23 (.bool (decide ((((k:Nat):Int) - 0:Int)<=12))) (bT) (congrArg Value.bool (decide_eq_true (by omega)))<|nt<|aL<|sr<|tz 3<|tc 27 292 #[.slice ao k c,iI 0,iI ((k:Nat):Int)] (ins_k hk) ?_
 rintro _ v2 ⟨rfl,hw⟩;subst hw;refine⟨_,rfl,nr<|bE<|kx<|bE<|kx<|ah (.tuple #[]) (rs0) ?_⟩;exact⟨rfl,rfl⟩
theorem sort_k(hk:k<=1):CP 192 #[.slice ao k c] w λe w'=>e=.returned (.tuple #[])/\w'=w:=by
 refine af (n:=11) Tryz.func192 rfl ?_
 refine sr<|tz 3<|nt<|aN<|tz 3<|tr 8 (.int .u64 ((k:Nat):Int)) (cv_ku hk)<|tc 9 242 #[.int .u64 ((k:Nat):Int)] (len_k hk) ?_
 rintro _ v1 ⟨rfl,hw⟩;subst hw;refine⟨_,rfl,tc 10 241 #[.slice ao k c,.int .i64 0,.int .i64 ((k:Nat):Int),.int .i64 ((k:Nat):Int)] (pdq_k hk) ?_⟩;rintro _ v2 ⟨rfl,hw⟩;subst hw;refine⟨_,rfl,aO<|bh (.tuple #[]) (rs0) ?_⟩;exact⟨rfl,rfl⟩
structure ef(w:World)(g:Nat)(o:Obj):Prop where
 ob:w.heap[g]?=some o
end
section
variable {w w':World} {g B:Nat} {o:Obj} {v:Value} {l:List Int}
theorem ef.lt (h:ef w g o):g < w.heap.size:=lt_of_block h.ob
theorem ef.keep (h:ef w g o) (b:BW w w'):ef w' g o:=⟨(b.block g h.lt).trans h.ob⟩
theorem ef.chg {x:Nat} (h:ef w g o) (C:Chg (·=x) w w') (hne:g≠x):ef w' g o:=⟨(C.same g h.lt hne).trans h.ob⟩
theorem ef.cel {F:Nat->Prop} (h:ef w g o) (ho:∀ cs t m,o≠.cells cs t m) (C:Chg F w w') (hF:∀ b,F b->∃ cs t,Blk w b cs t):ef w' g o:=⟨(C.same g h.lt (λhf=>by
 obtain⟨cs,t,k⟩:=hF g hf;have:=k.blk.symm.trans h.ob
 cases this
 exact ho _ _ _ rfl)).trans h.ob⟩
theorem UA.itg (h:UA w B v l) (I:ef w g o) (ho:∀ cs t m,o≠.cells cs t m) (C:Chg (· = g) w w'):UA w' B v l:=⟨h.ex.imp id (λ⟨b,c,e,f,d⟩=>⟨b,c,e,f,d.chg C (λhb=>by
 have a:b=g:=hb;subst a;obtain⟨cs,k⟩:=d.kind;have:=k.blk.symm.trans I.ob
 cases this
 exact ho _ _ _ rfl)⟩)⟩
theorem UA.oneg {x:Int} {a:Option Addr} {k d:Nat} (h:UA w B (.slice a k d) [x]):k=1:=by
 rcases h.ex with⟨_,e⟩ | ⟨b,c,e,_⟩
 ·cases e
 cases e;rfl
end
section
variable {ρ:Operand->Value}{w:World}{a:Option Addr}{d bm:Nat}{sp:List Value}
theorem mw{w':World}{o:Oper}{u v r:Value}(hr:(Builtin.append_ #[52,52] 52 #[u,v]).run Tryz.prog w=.ok r w')(ho:∃ x y,o.op=.call { callee:=.builtin .append,args:=#[x,y],argTypes:=#[52,52] }/\o.type=52/\ρ x=u/\ρ y=v:=by exact⟨_,_,rfl,rfl,by kernel_rfl,by kernel_rfl⟩):(execOp ρ o).run Tryz.prog w=.ok (.value r) w':=by
 obtain⟨x,y,h,b,c,a⟩:=ho;unfold execOp;simp only[h,b,resolve,invoke,builtin,Sem.run_bind,Sem.run_pure,Result.andThen_ok,List.map_toArray,List.map_cons,List.map_nil,c,a,hr]
theorem UA.zero{B:Nat}{k:Nat}(h:UA w B (.slice a k d) []):k=0:=by
 rcases h.ex with⟨e,_⟩ | ⟨b,c,e,_⟩
 ·cases e;rfl
 cases e;rfl
def e0G:MapEntry:=⟨.int .u64 16,.int .i64 2,0⟩
def esG:Array MapEntry:=#[e0G]
theorem qL{e:MapEntry}(h:e∈esG.toList):e=e0G:=by simpa[esG] using h
theorem CT:(esG.toList.map (·.born)).Nodup:=by decide +kernel
theorem tm:∀ x∈esG.toList,x.born < 1:=λx h=>by cases qL h;decide
theorem EA(M:ef w bm (.map esG 1)):CP 146 #[.map (some bm),iI 1] w λe w'=>∃ v,e=.returned v/\UA w' w.heap.size v []/\BW w w':=by
 have b:=Below.refl w.heap.size w;refine af (n:=25) Tryz.func146 rfl ?_
 refine sr<|tz 1<|nx<|tz 1<|nt<|ag<|sr<|tz 1<|trg 9 M.ob ?_
 intro v1 r c i B
 have I:ef _ r _:=⟨c⟩
 have m:bm < r:=Nat.lt_of_lt_of_le M.lt i
 have f:w.heap.size<=r:=Nat.le_trans b.size i;have b:=ae b B;have M:=M.keep B;refine nt<|aB<|bI (λs=>(leftOf esG s.1).size) (fun(s:Array Nat × Option Addr × Nat × Nat)=>[(1,iI 1),(5,.slice s.2.1 s.2.2.1 s.2.2.2),(9,pg r)]) (λs w'=>BW w w'/\ef w' bm (.map esG 1)/\ef w' r (.mapIter (some bm) 1 s.1 1)/\UA w' w.heap.size (.slice s.2.1 s.2.2.1 s.2.2.2) ([]:List Int)) ((#[],none,0,0):Array Nat × Option Addr × Nat × Nat) ⟨b,M,I,by simpa using UA.nil _ _⟩ (by kernel_rfl) ?_
 rintro⟨g,a,k,d⟩ v2 ⟨b,M,I,U⟩;dsimp only at I U;refine sr ?_
 refine tnx 10 I.ob M.ob tm (Nat.le_refl _) ?_ ?_
 ·intro p;have l:=UA.zero U;subst l;refine tz 1<|nt<|ag<|aX<|bQ<|bC<|bC<|dg<|aj<|sr<|tz 1<|tc 23 192 #[.slice a 0 d] (sort_k (Nat.zero_le 1)) ?_
  rintro _ o ⟨rfl,hw⟩;subst hw;refine⟨_,rfl,nx<|tz 2<|nr<|ah (.slice a 0 d) (rs1 4) ?_⟩;exact⟨_,rfl,U,b⟩
 intro e he v4 c C;have hm:=mem_left he;obtain rfl:=qL hm.1;have b:=aF b C (h:=f);have U:=UA.itg U I (λ_ _ _ h=>by cases h) C;have M:=M.chg C (by omega)
 have I:ef _ r _:=⟨c⟩
 refine tz 1<|nt<|ag<|aL<|aT<|aj<|aB<|sr<|tr 12 (.tuple #[iU 16,iI 2]) (Ax e0G I.ob M.ob (by simp[esG]) CT)<|tz 4<|nx<|tz 3<|nt<|aX<|aT<|cX ?_
 have j:UA v4 w.heap.size (.slice a k d) ([]:List Int):=U;exact bH ((g.push 0,a,k,d):Array Nat × Option Addr × Nat × Nat) ⟨b,M,I,j⟩ (by kernel_rfl) (hm:=left_shrinks esG g e0G he)
theorem FO(M:ef w bm (.map esG 1)):CP 146 #[.map (some bm),iI 2] w λe w'=>∃ v,e=.returned v/\UA w' w.heap.size v [16]/\BW w w':=by
 have c:=Below.refl w.heap.size w;refine af (n:=25) Tryz.func146 rfl ?_
 refine sr<|tz 1<|nx<|tz 1<|nt<|ag<|sr<|tz 1<|trg 9 M.ob ?_
 intro v1 r p u B
 have I:ef _ r _:=⟨p⟩
 have z:bm < r:=Nat.lt_of_lt_of_le M.lt u
 have l:w.heap.size<=r:=Nat.le_trans c.size u;have c:=ae c B;have M:=M.keep B;refine nt<|aB<|bI (λs=>(leftOf esG s.1).size) (fun(s:Array Nat × Option Addr × Nat × Nat)=>[(1,iI 2),(5,.slice s.2.1 s.2.2.1 s.2.2.2),(9,pg r)]) (λs w'=>BW w w'/\ef w' bm (.map esG 1)/\ef w' r (.mapIter (some bm) 1 s.1 1)/\UA w' w.heap.size (.slice s.2.1 s.2.2.1 s.2.2.2) (if s.1.contains 0 then [16] else [])) ((#[],none,0,0):Array Nat × Option Addr × Nat × Nat) ⟨c,M,I,by simpa using UA.nil _ _⟩ (by kernel_rfl) ?_
 rintro⟨f,a,k,d⟩ v2 ⟨c,M,I,U⟩;dsimp only at I U;refine sr ?_
 refine tnx 10 I.ob M.ob tm (Nat.le_refl _) ?_ ?_
 ·intro D
  have hc:f.contains 0=true:=all_seen esG f D e0G (by simp[esG]);rw[if_pos hc] at U;have E:=UA.oneg U;subst E;refine tz 1<|nt<|ag<|aX<|bQ<|bC<|bC<|dg<|aj<|sr<|tz 1<|tc 23 192 #[.slice a 1 d] (sort_k (Nat.le_refl 1)) ?_
  rintro _ H ⟨rfl,hw⟩;subst hw;refine⟨_,rfl,nx<|tz 2<|nr<|ah (.slice a 1 d) (rs1 4) ?_⟩;exact⟨_,rfl,U,c⟩
 intro e he v4 p C;have hm:=mem_left he;obtain rfl:=qL hm.1;have c:=aF c C (h:=l);have U:=UA.itg U I (λ_ _ _ h=>by cases h) C;have M:=M.chg C (by omega)
 have I:ef _ r _:=⟨p⟩
 refine tz 1<|nt<|ag<|aL<|aT<|aj<|aB<|sr<|tr 12 (.tuple #[iU 16,iI 2]) (Ax e0G I.ob M.ob (by simp[esG]) CT)<|tz 4<|nx<|tz 3<|nt<|aL<|aN<|tz 2<|ta 20 [iU 16] 22 (sg 1) ?_
 intro G y j A B;have c:=ae c B;have M:=M.keep B;have I:=I.keep B;have U:=U.keep B;rw[if_neg (by have:=hm.2;simp[e0G] at this;simp[this])] at U;obtain⟨G,F,m,t,g⟩:=Cq (a:=⟨y,0,none⟩) 52 U c.size (by simp) (j.cell (i:=0) rfl);obtain⟨o,q,rfl⟩:=t.shape;refine tw 21 (.slice o 1 q) _ (mw m) ?_
 have c:=c.trans (g.below (λb h=>h.1) c.size);have M:=M.cel (λ_ _ _ h=>by cases h) g (λb h=>by obtain⟨_,cs,k⟩:=h;exact⟨cs,_,k⟩);have I:=I.cel (λ_ _ _ h=>by cases h) g (λb h=>by obtain⟨_,cs,k⟩:=h;exact⟨cs,_,k⟩);have U:=t;refine tz 1<|aO<|cX ?_
 have x:UA F w.heap.size (.slice o 1 q) (if (f.push 0).contains 0 then [16] else []):=by rw[if_pos (by simp)];exact U
 exact bH ((f.push 0,o,1,q):Array Nat × Option Addr × Nat × Nat) ⟨c,M,I,x⟩ (by kernel_rfl) (hm:=left_shrinks esG f e0G he)
theorem E9{c j:Nat}(f:Blk w j (iU 16 :: sp) 22):CP 98 #[.slice a 0 c,.slice (some ⟨j,0,none⟩) 1 d] w λe w'=>∃ va vb,e=.returned (.tuple #[va,vb])/\UA w' w.heap.size va []/\UA w' w.heap.size vb [16]/\BW w w':=by
 have b:=Below.refl w.heap.size w;refine af (n:=38) Tryz.func98 rfl ?_
 refine sr<|tz 2<|nx<|tmk 11 ?_
 intro v1 g l p B;have q:=Nat.le_trans b.size p;have u:=f.lt
 have o:j≠g:=by omega
 have b:=ae b B;have f:=f.keep B
 have M:ef v1 g (.map (#[]:Array MapEntry) 0):=⟨l⟩
 refine tz 1<|nt<|ag<|sr<|tz 3<|nt<|aB<|bI (λ_=>0) (fun(_:Unit)=>[(1,.slice (some ⟨j,0,none⟩) 1 d),(6,.map (some g)),(12,.slice a 0 c),(13,iI 0),(14,iI 0)]) (λ_ w'=>BW w w'/\Blk w' j (iU 16 :: sp) 22/\ef w' g (.map (#[]:Array MapEntry) 0)) () ⟨b,f,M⟩ (by kernel_rfl) ?_
 rintro _ v2 ⟨b,f,M⟩;refine sr<|tz 1<|nt<|ag<|aX<|bQ<|bC<|bC<|dg<|aj<|ag<|sr<|tz 3<|nt<|aB<|bI (λs=>1 - s) (fun(s:Nat)=>[(6,.map (some g)),(23,.slice (some ⟨j,0,none⟩) 1 d),(24,iI 1),(25,iI (s:Int))]) (λs w'=>BW w w'/\Blk w' j (iU 16 :: sp) 22/\((s=0/\ef w' g (.map (#[]:Array MapEntry) 0))\/(s=1/\ef w' g (.map (#[⟨iU 16,iI 2,0⟩]:Array MapEntry) 1)))) 0 ⟨b,f,.inl ⟨rfl,M⟩⟩ (by kernel_rfl) ?_
 rintro i v ⟨b,f,H⟩;rcases H with⟨rfl,M⟩ | ⟨rfl,M⟩
 ·skip;refine sr<|tz 1<|nt<|ag<|aL<|aT<|aj<|ag<|aB<|sr<|tz 1<|tl 28 (iU 16) f 0<|tz 1<|nt<|aN<|tz 2<|tr 31 (iI 0) (run_lk 16 (iI 0) (r:=none) M.ob (by rfl) rfl)<|tz 1<|tmu0 16 (iI 2) (#[⟨iU 16,iI 2,0⟩]:Array MapEntry) M.ob (by rfl) (by rfl) ?_
  intro v4 l C;have b:=aF b C (h:=q);have f:=f.chg C o
  have M:ef v4 g (.map (#[⟨iU 16,iI 2,0⟩]:Array MapEntry) 1):=⟨l⟩
  exact aO<|cX<|aj<|aN<|tz 2<|aO<|bH (1:Nat) ⟨b,f,.inr ⟨rfl,M⟩⟩ (by kernel_rfl)
 skip;refine sr<|tz 1<|nt<|ag<|aX<|bQ<|bC<|bC<|dg<|aj<|sr<|tz 1 ?_
 have x:=b.size;refine tc 35 146 #[.map (some g),iI 1] (EA (M:ef _ g (.map esG 1))) ?_
 rintro _ y ⟨va,rfl,k,B⟩;have k:=k.low (B':=w.heap.size) (by omega);have b:=ae b B;have f:=f.keep B;have M:=M.keep B;refine⟨_,rfl,tz 1<|tc 37 146 #[.map (some g),iI 2] (FO (M:ef _ g (.map esG 1))) ?_⟩;rintro _ v6 ⟨vb,rfl,m,B⟩;have t:=b.size;have m:=m.low (B':=w.heap.size) (by omega);have b:=ae b B;have f:=f.keep B;have M:=M.keep B;have k:=k.keep B;refine⟨_,rfl,tz 2<|nr<|ah (.tuple #[va,vb]) (rs2 4 5) ?_⟩;exact⟨_,_,rfl,k,m,b⟩
end
end Pt
end Go.Proofs.YtpoifdokmjhclaaGreat
