import Derived.Test.YtpoifdokmjhclaaGreatJgF
set_option maxRecDepth 100000
set_option maxHeartbeats 8000000
namespace Go.Proofs.YtpoifdokmjhclaaGreat
namespace Pt
open Go.RowKit Go.Lib Pg Lim Gl Kv Bk Pw
attribute [local go_sem] Oper.semAt_some
set_option linter.unusedVariables false
set_option linter.unusedSimpArgs false
section
variable {w:World}{ao:Option Addr}{c:Nat}
theorem E3:Calls Tryz.prog 302 #[.int .u64 1] w fun e w'=>e=.returned (.int .i64 1)/\w'=w:=zX 1 w (by decide) (by decide)
theorem len_1:Calls Tryz.prog 242 #[.int .u64 1] w fun e w'=>e=.returned (.int .i64 1)/\w'=w:=by
 refine af (n:=8) Tryz.func242 rfl ?_
 refine sr<|tz 1<|nt<|ag<|nk<|sr<|tz 1<|tc 7 302 #[.int .u64 1] (E3) ?_
 rintro _ v1 ⟨rfl,hw⟩;refine⟨_,rfl,?_⟩;subst hw;refine tz 1<|nr<|ah (.int .i64 1) (rs1 2) ?_
 exact⟨rfl,rfl⟩
theorem ins_1:Calls Tryz.prog 292 #[.slice ao 1 c,.int .i64 0,.int .i64 1] w fun e w'=>e=.returned (.tuple #[])/\w'=w:=by
 refine af (n:=49) Tryz.func292 rfl ?_
 refine sr<|tz 3<|nt<|aB<|bH (fun _=>0) (fun(_:Unit)=>[(2,iI 1),(6,iI 1)]) (fun _ w'=>w'=w) () rfl (by kernel_rfl) ?_
 rintro _ v1 rfl;refine ag<|sr<|tz 3<|nt<|aY<|bR<|bC<|bC<|dm<|aV (.tuple #[]) (rs0) ?_
 exact⟨rfl,rfl⟩
theorem pdq_1:Calls Tryz.prog 241 #[.slice ao 1 c,.int .i64 0,.int .i64 1,.int .i64 1] w fun e w'=>e=.returned (.tuple #[])/\w'=w:=by
 refine af (n:=134) Tryz.func241 rfl ?_
 refine sr<|tz 1<|nx<|tz 1<|nt<|aB<|bH (fun _=>0) (fun(_:Unit)=>[(0,.slice ao 1 c),(1,iI 0),(2,iI 1)]) (fun _ w'=>w'=w) () rfl (by kernel_rfl) ?_
 rintro _ v1 rfl;refine aB<|sr<|tz 4<|nt<|ag<|sr<|tz 2<|nt<|aJ<|sr<|tz 3<|tc 27 292 #[.slice ao 1 c,iI 0,iI 1] (ins_1) ?_
 rintro _ v2 ⟨rfl,hw⟩;refine⟨_,rfl,?_⟩;subst hw;refine nr<|bN<|hH<|bN<|hH<|ah (.tuple #[]) (rs0) ?_
 exact⟨rfl,rfl⟩
theorem sort_1:Calls Tryz.prog 192 #[.slice ao 1 c] w fun e w'=>e=.returned (.tuple #[])/\w'=w:=by
 refine af (n:=11) Tryz.func192 rfl ?_
 refine sr<|tz 3<|nt<|aN<|tz 4<|tc 9 242 #[.int .u64 1] (len_1) ?_
 rintro _ v1 ⟨rfl,hw⟩;refine⟨_,rfl,?_⟩;subst hw;refine tc 10 241 #[.slice ao 1 c,.int .i64 0,.int .i64 1,.int .i64 1] (pdq_1) ?_
 rintro _ v2 ⟨rfl,hw⟩;refine⟨_,rfl,?_⟩;subst hw;refine aO<|aV (.tuple #[]) (rs0) ?_
 exact⟨rfl,rfl⟩
theorem D8:Calls Tryz.prog 302 #[.int .u64 0] w fun e w'=>e=.returned (.int .i64 0)/\w'=w:=zX 0 w (by decide) (by decide)
theorem len_0:Calls Tryz.prog 242 #[.int .u64 0] w fun e w'=>e=.returned (.int .i64 0)/\w'=w:=by
 refine af (n:=8) Tryz.func242 rfl ?_
 refine sr<|tz 1<|nt<|ag<|nk<|sr<|tz 1<|tc 7 302 #[.int .u64 0] (D8) ?_
 rintro _ v1 ⟨rfl,hw⟩;refine⟨_,rfl,?_⟩;subst hw;refine tz 1<|nr<|ah (.int .i64 0) (rs1 2) ?_
 exact⟨rfl,rfl⟩
theorem ins_0:Calls Tryz.prog 292 #[.slice ao 0 c,.int .i64 0,.int .i64 0] w fun e w'=>e=.returned (.tuple #[])/\w'=w:=by
 refine af (n:=49) Tryz.func292 rfl ?_
 refine sr<|tz 3<|nt<|aB<|bH (fun _=>0) (fun(_:Unit)=>[(2,iI 0),(6,iI 1)]) (fun _ w'=>w'=w) () rfl (by kernel_rfl) ?_
 rintro _ v1 rfl;refine ag<|sr<|tz 3<|nt<|aY<|bR<|bC<|bC<|dm<|aV (.tuple #[]) (rs0) ?_
 exact⟨rfl,rfl⟩
theorem pdq_0:Calls Tryz.prog 241 #[.slice ao 0 c,.int .i64 0,.int .i64 0,.int .i64 0] w fun e w'=>e=.returned (.tuple #[])/\w'=w:=by
 refine af (n:=134) Tryz.func241 rfl ?_
 refine sr<|tz 1<|nx<|tz 1<|nt<|aB<|bH (fun _=>0) (fun(_:Unit)=>[(0,.slice ao 0 c),(1,iI 0),(2,iI 0)]) (fun _ w'=>w'=w) () rfl (by kernel_rfl) ?_
 rintro _ v1 rfl;refine aB<|sr<|tz 4<|nt<|ag<|sr<|tz 2<|nt<|aJ<|sr<|tz 3<|tc 27 292 #[.slice ao 0 c,iI 0,iI 0] (ins_0) ?_
 rintro _ v2 ⟨rfl,hw⟩;refine⟨_,rfl,?_⟩;subst hw;refine nr<|bN<|hH<|bN<|hH<|ah (.tuple #[]) (rs0) ?_
 exact⟨rfl,rfl⟩
theorem sort_0:Calls Tryz.prog 192 #[.slice ao 0 c] w fun e w'=>e=.returned (.tuple #[])/\w'=w:=by
 refine af (n:=11) Tryz.func192 rfl ?_
 refine sr<|tz 3<|nt<|aN<|tz 4<|tc 9 242 #[.int .u64 0] (len_0) ?_
 rintro _ v1 ⟨rfl,hw⟩;refine⟨_,rfl,?_⟩;subst hw;refine tc 10 241 #[.slice ao 0 c,.int .i64 0,.int .i64 0,.int .i64 0] (pdq_0) ?_
 rintro _ v2 ⟨rfl,hw⟩;refine⟨_,rfl,?_⟩;subst hw;refine aO<|aV (.tuple #[]) (rs0) ?_
 exact⟨rfl,rfl⟩
structure dV(w:World)(g:Nat)(o:Obj):Prop where
 ob:w.heap[g]?=some o
end
section
variable {w w':World} {g B:Nat} {o:Obj} {v:Value} {l:List Int}
theorem dV.lt (h:dV w g o):g < w.heap.size:=lt_of_block h.ob
theorem dV.keep (h:dV w g o) (b:Below w.heap.size w w'):dV w' g o:=⟨(b.block g h.lt).trans h.ob⟩
theorem dV.chg {x:Nat} (h:dV w g o) (C:Chg (·=x) w w') (hne:g≠x):dV w' g o:=⟨(C.same g h.lt hne).trans h.ob⟩
theorem dV.cel {F:Nat->Prop} (h:dV w g o) (ho:∀ cs t m,o≠.cells cs t m) (C:Chg F w w') (hF:∀ b,F b->∃ cs t,Blk w b cs t):dV w' g o:=⟨(C.same g h.lt (fun hf=>by
 obtain⟨cs,t,k⟩:=hF g hf;have:=k.blk.symm.trans h.ob
 cases this
 exact ho _ _ _ rfl)).trans h.ob⟩
theorem UA.itg (h:UA w B v l) (I:dV w g o) (ho:∀ cs t m,o≠.cells cs t m) (C:Chg (· = g) w w'):UA w' B v l:=⟨h.ex.imp id (fun⟨b,c,e,f,d⟩=>⟨b,c,e,f,d.chg C (fun hb=>by
 have a:b=g:=hb;subst a;obtain⟨cs,k⟩:=d.kind;have:=k.blk.symm.trans I.ob
 cases this
 exact ho _ _ _ rfl)⟩)⟩
theorem UA.oneg {x:Int} {a:Option Addr} {k d:Nat} (h:UA w B (.slice a k d) [x]):k=1:=by
 rcases h.ex with⟨_,e⟩ | ⟨b,c,e,_⟩
 ·cases e
 ·cases e;rfl
end
section
variable {ρ:Operand->Value}{w:World}{a:Option Addr}{d bm:Nat}{sp:List Value}
theorem El{w':World}{o:Oper}{u v r:Value}(hr:(Builtin.append_ #[52,52] 52 #[u,v]).run Tryz.prog w=.ok r w')(ho:∃ x y,o.op=.call { callee:=.builtin .append,args:=#[x,y],argTypes:=#[52,52] }/\o.type=52/\ρ x=u/\ρ y=v:=by exact⟨_,_,rfl,rfl,by kernel_rfl,by kernel_rfl⟩):(execOp ρ o).run Tryz.prog w=.ok (.value r) w':=by
 obtain⟨x,y,h,b,c,a⟩:=ho;unfold execOp;simp only[h,b,resolve,invoke,builtin,Sem.run_bind,Sem.run_pure,Result.andThen_ok,List.map_toArray,List.map_cons,List.map_nil,c,a,hr]
theorem UA.zero{B:Nat}{k:Nat}(h:UA w B (.slice a k d) []):k=0:=by
 rcases h.ex with⟨e,_⟩ | ⟨b,c,e,_⟩
 ·cases e;rfl
 ·cases e;rfl
def e0G:MapEntry:=⟨.int .u64 16,.int .i64 2,0⟩
def esG:Array MapEntry:=#[e0G]
theorem qk{e:MapEntry}(h:e∈esG.toList):e=e0G:=by simpa[esG] using h
theorem BT:(esG.toList.map (·.born)).Nodup:=by decide +kernel
theorem se:∀ x∈esG.toList,x.born < 1:=fun x h=>by cases qk h;decide
theorem DA(M:dV w bm (.map esG 1)):Calls Tryz.prog 146 #[.map (some bm),.int .i64 1] w fun e w'=>∃ v,e=.returned v/\UA w' w.heap.size v []/\Below w.heap.size w w':=by
 have b:=Below.refl w.heap.size w;refine af (n:=25) Tryz.func146 rfl ?_
 refine sr<|tz 1<|nx<|tz 1<|nt<|ag<|sr<|tz 1<|trg 9 M.ob ?_
 intro v1 r c i B
 have I:dV _ r _:=⟨c⟩
 have m:bm < r:=Nat.lt_of_lt_of_le M.lt i
 have f:w.heap.size<=r:=Nat.le_trans b.size i;clear c;replace b:=ae b B;replace M:=M.keep B;refine nt<|aB<|bH (fun s=>(leftOf esG s.1).size) (fun(s:Array Nat × Option Addr × Nat × Nat)=>[(1,iI 1),(5,.slice s.2.1 s.2.2.1 s.2.2.2),(9,pg r)]) (fun s w'=>Below w.heap.size w w'/\dV w' bm (.map esG 1)/\dV w' r (.mapIter (some bm) 1 s.1 1)/\UA w' w.heap.size (.slice s.2.1 s.2.2.1 s.2.2.2) ([]:List Int)) ((#[],none,0,0):Array Nat × Option Addr × Nat × Nat) ⟨b,M,I,by simpa using UA.nil _ _⟩ (by kernel_rfl) ?_
 clear b;clear M;clear I;rintro⟨g,a,k,d⟩ v2 ⟨b,M,I,U⟩;dsimp only at I U;refine sr ?_
 refine tnx 10 I.ob M.ob se (Nat.le_refl _) ?_ ?_
 ·intro p;have l:=UA.zero U;subst l;refine tz 1<|nt<|ag<|aY<|bR<|bC<|bC<|dm<|ai<|sr<|tz 1<|tc 23 192 #[.slice a 0 d] (sort_0) ?_
  rintro _ o ⟨rfl,hw⟩;refine⟨_,rfl,?_⟩;subst hw;refine nx<|tz 2<|nr<|ah (.slice a 0 d) (rs1 4) ?_
  exact⟨_,rfl,U,b⟩
 ·intro e he v4 c C;have hm:=mem_left he;obtain rfl:=qk hm.1;replace b:=aM b C f;replace U:=UA.itg U I (fun _ _ _ h=>by cases h) C;replace M:=M.chg C (by omega);clear I
  have I:dV _ r _:=⟨c⟩
  clear c C;refine tz 1<|nt<|ag<|aJ<|aU<|ai<|aB<|sr<|tr 12 (.tuple #[iU 16,iI 2]) (zx e0G I.ob M.ob (by simp[esG]) BT)<|tz 4<|nx<|tz 3<|nt<|aY<|aU<|dc ?_
  have j:UA v4 w.heap.size (.slice a k d) ([]:List Int):=U;exact bQ ((g.push 0,a,k,d):Array Nat × Option Addr × Nat × Nat) (left_shrinks esG g e0G he) ⟨b,M,I,j⟩ (by kernel_rfl)
theorem ED(M:dV w bm (.map esG 1)):Calls Tryz.prog 146 #[.map (some bm),.int .i64 2] w fun e w'=>∃ v,e=.returned v/\UA w' w.heap.size v [16]/\Below w.heap.size w w':=by
 have c:=Below.refl w.heap.size w;refine af (n:=25) Tryz.func146 rfl ?_
 refine sr<|tz 1<|nx<|tz 1<|nt<|ag<|sr<|tz 1<|trg 9 M.ob ?_
 intro v1 r j u B
 have I:dV _ r _:=⟨j⟩
 have z:bm < r:=Nat.lt_of_lt_of_le M.lt u
 have o:w.heap.size<=r:=Nat.le_trans c.size u;clear j;replace c:=ae c B;replace M:=M.keep B;refine nt<|aB<|bH (fun s=>(leftOf esG s.1).size) (fun(s:Array Nat × Option Addr × Nat × Nat)=>[(1,iI 2),(5,.slice s.2.1 s.2.2.1 s.2.2.2),(9,pg r)]) (fun s w'=>Below w.heap.size w w'/\dV w' bm (.map esG 1)/\dV w' r (.mapIter (some bm) 1 s.1 1)/\UA w' w.heap.size (.slice s.2.1 s.2.2.1 s.2.2.2) (if s.1.contains 0 then [16] else [])) ((#[],none,0,0):Array Nat × Option Addr × Nat × Nat) ⟨c,M,I,by simpa using UA.nil _ _⟩ (by kernel_rfl) ?_
 clear c;clear M;clear I;rintro⟨l,a,k,d⟩ v2 ⟨c,M,I,U⟩;dsimp only at I U;refine sr ?_
 refine tnx 10 I.ob M.ob se (Nat.le_refl _) ?_ ?_
 ·intro D
  have hc:l.contains 0=true:=all_seen esG l D e0G (by simp[esG]);rw[if_pos hc] at U;have E:=UA.oneg U;subst E;refine tz 1<|nt<|ag<|aY<|bR<|bC<|bC<|dm<|ai<|sr<|tz 1<|tc 23 192 #[.slice a 1 d] (sort_1) ?_
  rintro _ H ⟨rfl,hw⟩;refine⟨_,rfl,?_⟩;subst hw;refine nx<|tz 2<|nr<|ah (.slice a 1 d) (rs1 4) ?_
  exact⟨_,rfl,U,c⟩
 ·intro e he v4 j C;have hm:=mem_left he;obtain rfl:=qk hm.1;replace c:=aM c C o;replace U:=UA.itg U I (fun _ _ _ h=>by cases h) C;replace M:=M.chg C (by omega);clear I
  have I:dV _ r _:=⟨j⟩
  clear j C;refine tz 1<|nt<|ag<|aJ<|aU<|ai<|aB<|sr<|tr 12 (.tuple #[iU 16,iI 2]) (zx e0G I.ob M.ob (by simp[esG]) BT)<|tz 4<|nx<|tz 3<|nt<|aJ<|aN<|tz 2<|ta 20 [iU 16] 22 (sg 1) ?_
  intro G y f A B;replace c:=ae c B;replace M:=M.keep B;replace I:=I.keep B;replace U:=U.keep B;rw[if_neg (by have:=hm.2;simp[e0G] at this;simp[this])] at U;obtain⟨G,F,g,q,m⟩:=Bq (a:=⟨y,0,none⟩) 52 U c.size (by simp) (f.cell (i:=0) rfl);obtain⟨p,t,rfl⟩:=q.shape;refine tw 21 (.slice p 1 t) _ (El g) ?_
  replace c:=c.trans (m.below (fun b h=>h.1) c.size);replace M:=M.cel (fun _ _ _ h=>by cases h) m (fun b h=>by obtain⟨_,cs,k⟩:=h;exact⟨cs,_,k⟩);replace I:=I.cel (fun _ _ _ h=>by cases h) m (fun b h=>by obtain⟨_,cs,k⟩:=h;exact⟨cs,_,k⟩);clear U f m g;have U:=q;clear q;refine tz 1<|aO<|dc ?_
  have x:UA F w.heap.size (.slice p 1 t) (if (l.push 0).contains 0 then [16] else []):=by rw[if_pos (by simp)];exact U
  exact bQ ((l.push 0,p,1,t):Array Nat × Option Addr × Nat × Nat) (left_shrinks esG l e0G he) ⟨c,M,I,x⟩ (by kernel_rfl)
theorem DY{c h:Nat}(f:Blk w h (.int .u64 16 :: sp) 22):Calls Tryz.prog 98 #[.slice a 0 c,.slice (some ⟨h,0,none⟩) 1 d] w fun e w'=>∃ va vb,e=.returned (.tuple #[va,vb])/\UA w' w.heap.size va []/\UA w' w.heap.size vb [16]/\Below w.heap.size w w':=by
 have b:=Below.refl w.heap.size w;refine af (n:=38) Tryz.func98 rfl ?_
 refine sr<|tz 2<|nx<|tmk 11 ?_
 intro v1 g j o B;have p:=Nat.le_trans b.size o;have t:=f.lt
 have m:h≠g:=by omega
 replace b:=ae b B;replace f:=f.keep B
 have M:dV v1 g (.map (#[]:Array MapEntry) 0):=⟨j⟩
 clear j;refine tz 1<|nt<|ag<|sr<|tz 3<|nt<|aB<|bH (fun _=>0) (fun(_:Unit)=>[(1,.slice (some ⟨h,0,none⟩) 1 d),(6,.map (some g)),(12,.slice a 0 c),(13,iI 0),(14,iI 0)]) (fun _ w'=>Below w.heap.size w w'/\Blk w' h (iU 16 :: sp) 22/\dV w' g (.map (#[]:Array MapEntry) 0)) () ⟨b,f,M⟩ (by kernel_rfl) ?_
 clear b f M;rintro _ v2 ⟨b,f,M⟩;refine sr<|tz 1<|nt<|ag<|aY<|bR<|bC<|bC<|dm<|ai<|ag<|sr<|tz 3<|nt<|aB<|bH (fun s=>1 - s) (fun(s:Nat)=>[(6,.map (some g)),(23,.slice (some ⟨h,0,none⟩) 1 d),(24,iI 1),(25,iI (s:Int))]) (fun s w'=>Below w.heap.size w w'/\Blk w' h (iU 16 :: sp) 22/\((s=0/\dV w' g (.map (#[]:Array MapEntry) 0))\/(s=1/\dV w' g (.map (#[⟨iU 16,iI 2,0⟩]:Array MapEntry) 1)))) 0 ⟨b,f,.inl ⟨rfl,M⟩⟩ (by kernel_rfl) ?_
 clear b f M;rintro i u ⟨b,f,H⟩;rcases H with⟨rfl,M⟩ | ⟨rfl,M⟩
 ·skip;refine sr<|tz 1<|nt<|ag<|aJ<|aU<|ai<|ag<|aB<|sr<|tz 1<|tl 28 (iU 16) f 0<|tz 1<|nt<|aN<|tz 2<|tr 31 (iI 0) (run_lk 16 (iI 0) (r:=none) M.ob (by rfl) rfl)<|tz 1<|tmu0 16 (iI 2) (#[⟨iU 16,iI 2,0⟩]:Array MapEntry) M.ob (by rfl) (by rfl) ?_
  intro v4 j C;replace b:=aM b C p;replace f:=f.chg C m;clear M
  have M:dV v4 g (.map (#[⟨iU 16,iI 2,0⟩]:Array MapEntry) 1):=⟨j⟩
  clear j C;exact aO<|dc<|ai<|aN<|tz 2<|aO<|bQ (1:Nat) (by decide) ⟨b,f,.inr ⟨rfl,M⟩⟩ (by kernel_rfl)
 ·skip;refine sr<|tz 1<|nt<|ag<|aY<|bR<|bC<|bC<|dm<|ai<|sr<|tz 1 ?_
  have v:=b.size;refine tc 35 146 #[.map (some g),iI 1] (DA (M:dV _ g (.map esG 1))) ?_
  rintro _ x ⟨va,rfl,k,B⟩;refine⟨_,rfl,?_⟩;replace k:=k.low (B':=w.heap.size) (by omega);replace b:=ae b B;replace f:=f.keep B;replace M:=M.keep B;refine tz 1<|tc 37 146 #[.map (some g),iI 2] (ED (M:dV _ g (.map esG 1))) ?_
  rintro _ v6 ⟨vb,rfl,l,B⟩;refine⟨_,rfl,?_⟩;have q:=b.size;replace l:=l.low (B':=w.heap.size) (by omega);replace b:=ae b B;replace f:=f.keep B;replace M:=M.keep B;replace k:=k.keep B;refine tz 2<|nr<|ah (.tuple #[va,vb]) (rs2 4 5) ?_
  exact⟨_,_,rfl,k,l,b⟩
end
end Pt
end Go.Proofs.YtpoifdokmjhclaaGreat
