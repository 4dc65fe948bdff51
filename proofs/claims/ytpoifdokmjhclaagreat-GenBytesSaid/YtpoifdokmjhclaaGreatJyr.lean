import Derived.Test.YtpoifdokmjhclaaGreatJyq
set_option maxRecDepth 100000
set_option maxHeartbeats 8000000
namespace Go.Proofs.YtpoifdokmjhclaaGreat
namespace Gn
open Go.RowKit Go.Lib Pg Lim Gl Mg
attribute [local go_sem] Oper.semAt_some
set_option linter.unusedVariables false
set_option linter.unusedSimpArgs false
section
variable {B g b k n r c m:Nat}{A l l1:List Int}{w w':World}{cs:List Value}{err x:Int}{v z:Value}{ρ:Operand->Value}{o op:Oper}{a ao:Option Addr}
structure Gt(E:TypeId)(B:Nat)(w w':World):Prop where
 os:w'.os=w.os
 tape:w'.tape=w.tape
 output:w'.output=w.output
 size:w.heap.size<=w'.heap.size
 low:∀ k:Nat,k < B->k < w.heap.size->w'.heap[k]?=w.heap[k]?
 typ:∀ (k:Nat) (c:Array Value) (t:TypeId) (f:Nat × Nat),w.heap[k]?=some (Obj.cells c t f)->t≠E->w'.heap[k]?=w.heap[k]?
theorem Gt.below{E:TypeId}{A:Nat}{a:World}(h:Gt E B w w')(b:Below A a w)(hA:A<=B)(hs:A<=a.heap.size):Below A a w' :=
 ⟨h.os.trans b.os,h.tape.trans b.tape,h.output.trans b.output,Nat.le_trans b.size h.size,λk hk=>(h.low k (by omega) (Nat.lt_of_lt_of_le (Nat.lt_of_lt_of_le hk hs) b.size)).trans (b.block k hk)⟩
theorem bkG{E:TypeId}{t:TypeId}(h:Blk w g cs t)(G:Gt E B w w')(ht:t≠E:=by decide):Blk w' g cs t:=⟨by rw[G.typ g _ t _ h.blk ht];exact h.blk⟩
theorem rfG{E:TypeId}(h:RfA w g b err l)(hb:b < B)(G:Gt E B w w')(ht:70≠E:=by decide):RfA w' g b err l:=by
 obtain⟨f,n,c,X,A⟩:=h.ex;obtain⟨o,k,d,e,j,a⟩:=A.ex;refine⟨f,n,c,⟨by rw[G.typ _ _ _ _ X.blk ht];exact X.blk⟩,o,k,d,e,j,a.loc,λi hi=>?_⟩;have hc:=a.cell i hi;rw[World.cell?_of_block (w:=w) (G.low b hb (aC hc))];exact hc
structure Ow(B:Nat)(w:World)(v:Value)(n k:Nat)(A:List Int)(E:TypeId):Prop where
 ex:w.ownsRow B E k v n (A.map (Value.int .u64))
theorem Ow.nil{E:TypeId}:Ow B w (.slice none 0 0) 0 k [] E:=⟨by simp,.inl ⟨rfl,rfl⟩⟩
theorem Ow.lt{E:TypeId}(h:Ow B w v n k A E):∀ g,v.ownBlock=some g->g < w.heap.size:=λg e=>(h.ex.lt g e).2
theorem Ow.of{E:TypeId}(h:Ow B w v n k A E)(hs:∀ g c,w.heap[g]?=some (.cells c E (0,0))->v.ownBlock=some g->w'.heap[g]?=w.heap[g]?):Ow B w' v n k A E:=by
 obtain⟨i,a⟩:=h.ex;refine⟨i,?_⟩;rcases a with a | ⟨g,cap,cur,b,f,d,e⟩
 ·exact .inl a
 exact .inr ⟨g,cap,cur,b,f,by rw[hs g cur d (by rw[b];rfl)];exact d,e⟩
theorem Ow.keep{E:TypeId}(h:Ow B w v n k A E)(b:BW w w'):Ow B w' v n k A E:=h.of λg _ hc _=>b.block g (lt_of_block hc)
theorem Ow.but{E t:TypeId}(h:Ow B w v n k A E)(X:Blk w r cs t)(ht:t≠E)(U:But r w w'):Ow B w' v n k A E:=h.of λg _ hc _=>U.block g (lt_of_block hc) λe=>by
 subst e;rw[X.blk] at hc
 cases hc;exact ht rfl
theorem Ow.rf{E:TypeId}(h:Ow B w v n k A E)(R:RfA w r b err l)(ht:70≠E)(U:But r w w'):Ow B w' v n k A E:=by
 obtain⟨ao,m,c,X,-⟩:=R.ex;exact h.but (t:=70) ⟨X.blk⟩ ht U
theorem Ow.chg{E:TypeId}(h:Ow B w v n k A E)(C:Chg (·=r) w w')(hr:v.ownBlock≠some r):Ow B w' v n k A E:=h.of λg _ hc ho=>C.same g (lt_of_block hc) λe=>hr (by rw[ho];exact congrArg some e)
theorem Ow.typ{E t:TypeId}(h:Ow B w v n k A E)(X:Blk w r cs t)(ht:t≠E)(C:Chg (· = r) w w'):Ow B w' v n k A E:=h.of λg _ hc _=>C.same g (lt_of_block hc) λe=>by
 have e:g=r:=e;subst e;rw[X.blk] at hc
 cases hc;exact ht rfl
theorem Ow.gt{E F:TypeId}(h:Ow B w v n k A E)(G:Gt F B w w')(hE:E≠F):Ow B w' v n k A E:=h.of λg c hc _=>G.typ g c E _ hc hE
theorem Ow.nl{E:TypeId}(h:Ow B w v n k A E)(hr:∀ x∈A,In8 x):∃ a c g,v=.slice a n c/\Nl w a n k g 0 A/\(0 < n->B<=g)/\∀ r cs t,Blk w r cs t->t≠E->0 < n->g≠r:=by
 obtain⟨b,d⟩:=h.ex;rw[List.length_map] at b;rcases d with⟨rfl,rfl⟩ | ⟨g,cap,cur,rfl,h4,h5,h6,h7,h8,h9⟩
 ·exact⟨none,0,0,rfl,⟨b,λh=>absurd h (by decide),λi hi=>absurd hi (by omega),hr⟩,λh=>absurd h (by decide),λ_ _ _ _ _ h=>absurd h (by decide)⟩
 refine⟨_,cap,g,rfl,⟨b,λ_=>rfl,λi hi => ?_,hr⟩,λ_=>h4,λr cs t X f _ e=>by
  subst e;rw[X.blk] at h5
  cases h5
  exact f rfl⟩
 have e:(cur.toList.take (n * k))[i]?=some (.int .u64 (nth A i)):=by rw[h9,List.getElem?_map,List.getElem?_eq_getElem (by omega),cF (by omega)];rfl
 rw[List.getElem?_take,if_pos (by omega),Array.getElem?_toList] at e;rw[Nat.zero_add];simp only[World.cell?,h5];exact e
theorem zD{xs:List Int}{T E:TypeId}{i:TypeInfo}(bytes:Nat)(h:Ow B w v n k A E)(X:Blk w g (xs.map (Value.int .u64)) E)(hx:xs.length=k)(r:Tryz.prog.underlying T=some (.slice E))(hi:Tryz.prog.info? E=some i)(o:i.zero=some z)(hs:i.size=k)(d:i.bytes=bytes)(b:z.cells.size=k)(hn:n≤1000000)(x:B≤w.heap.size)(hk:0 < k:=by decide)(hb:bytes≤1000:=by decide) :
    ∃ v' w',(Builtin.append_ #[T,T] T #[v,sg 1 g]).run Tryz.prog w=.ok v' w'∧Ow B w' v' (n+1) k (A ++ xs) E∧Gt E B w w':=by
  have H:=run_append_own (P:=Tryz.prog) w B T T E i z k bytes r hi o hs d b hk v n (A.map (Value.int .u64)) h.ex ⟨g,0,none⟩ 1 1 (xs.map (Value.int .u64)) (by rw[List.length_map,hx,Nat.one_mul])
    (λj u p => by
      have:=X.cell (i:=0+j) (v:=u) (by rw[Nat.zero_add];exact p);rw[bZ];exact this) (λu hu=>by
      obtain⟨y,-,rfl⟩:= List.mem_map.1 hu
      rfl) (by unfold maxLen;omega) (by have:(n+1) * bytes≤(n+1) * 1000:=Nat.mul_le_mul_left _ hb;omega) x
  obtain⟨v',w',s,l,a,-⟩:= H;refine⟨v',w',s,⟨by rw[List.map_append];exact l⟩,a.os,a.tape,a.output,a.size,λq hq hs=>a.block q hs λe=>?_,λq c t f hc m=>a.block q (lt_of_block hc) λe=>?_⟩
  · have:=(h.ex.lt q e.symm).1
    omega
  · rcases h.ex.2 with⟨rfl, _⟩ | ⟨g', cap, cur, rfl, _, hh, _⟩
    · cases e
    · simp[Value.ownBlock] at e
      subst e;rw[hh] at hc
      cases hc;exact m rfl
theorem mw{u r:Value}(T:TypeId)(hr:(Builtin.append_ #[T,T] T #[u,v]).run Tryz.prog w=.ok r w')(ho:∃ x y,o.op=.call { callee:=.builtin .append,args:=#[x,y],argTypes:=#[T,T] }/\o.type=T/\ρ x=u/\ρ y=v:=by exact⟨_,_,rfl,rfl,by kernel_rfl,by kernel_rfl⟩):(execOp ρ o).run Tryz.prog w=.ok (.value r) w':=by
 obtain⟨x,y,h,b,c,a⟩:=ho;unfold execOp;simp only[h,b,resolve,invoke,builtin,Sem.run_bind,Sem.run_pure,Result.andThen_ok,List.map_toArray,List.map_cons,List.map_nil,c,a,hr]
theorem yU4{s:St}(R:RfA w g b s.1 s.2):CP 25 #[pg g,.int .i64 4] w λe w'=>∃ v s',rU 4 s=(v,s')/\(0<=v/\v < 4294967296)/\e=.returned (.int .u64 v)/\RfA w' g b s'.1 s'.2/\But g w w':=by
 refine(rfU (m:=4) R).mono ?_
 rintro e w' ⟨rfl,a,U⟩;have:=(mV (m:=4) (s:=s) (x:=(rU 4 s).1) (s':=(rU 4 s).2) rfl R.oct).1.2;exact⟨_,_,rfl,this,rfl,a,U⟩
theorem G0(k:Int)(hk:0<=k/\k < 4294967296)(ho:∃ u,o.op=.convert 22 3 u/\ρ u=.int .u64 k:=by exact⟨_,rfl,by kernel_rfl⟩):(execOp ρ o).run Tryz.prog w=.ok (.value (.int .i64 k)) w:=by
 obtain⟨u,h,b⟩:=ho;simp only[execOp,h,b];go_simp;rw[IntKind.wrap_i64];omega
theorem Ez(hc:80<=c)(ho:∃ x y,op.op=.slice 29 x none (some y) none/\ρ x=.slice a n c/\ρ y=.int .i64 80:=by exact⟨_,_,rfl,by kernel_rfl,by kernel_rfl⟩):(execOp ρ op).run Tryz.prog w=.ok (.value (.slice a 80 c)) w:=by
 obtain⟨x,y,h,hx,hy⟩:=ho;simp only[execOp,h,Option.map,hx,hy];go_simp;intro b;omega
theorem FJ{f:Nat}(hn:80<=n)(hc:n<=c)(ho:∃ x y,op.op=.slice 29 x (some y) none none/\ρ x=.slice (some ⟨b,f,none⟩) n c/\ρ y=.int .i64 80:=by exact⟨_,_,rfl,by kernel_rfl,by kernel_rfl⟩):(execOp ρ op).run Tryz.prog w=.ok (.value (.slice (some ⟨b,if c=80 then f else f+80,none⟩) (n - 80) (c - 80))) w:=by
 obtain⟨x,y,h,hx,hy⟩:=ho;simp only[execOp,h,Option.map,hx,hy];by_cases e:c=80
 ·subst e;go_simp;intro d;omega
 rw[if_neg e];go_simp;intro d;omega
theorem by80(A:ByA w b ao n c l)(h:80<=n):∃ f,ao=some ⟨b,f,none⟩/\80<=c/\n<=c/\ByA w b ao 80 c (l.take 80)/\ByA w b (some ⟨b,if c=80 then f else f+80,none⟩) (n - 80) (c - 80) (l.drop 80):=by
 obtain⟨o,m,p,⟨q,j⟩,k,g⟩:=A.ex
 have d:¬ l=[]:=λe=>by rw[e] at m;simp at m;omega
 have r:ao=some ⟨b,o,none⟩:=g.loc.resolve_left d;subst r;refine⟨o,rfl,by omega,p,⟨o,by rw[List.length_take];omega,by omega,⟨q,j⟩,λx hx=>k x (List.mem_of_mem_take hx),.inr rfl,λi hi=>?_⟩,⟨if c=80 then o else o+80,by rw[List.length_drop];omega,by omega,⟨by omega,λe=>by cases e⟩,λx hx=>k x (List.mem_of_mem_drop hx),?_,λi hi=>?_⟩⟩
 ·rw[List.length_take] at hi;rw[g.cell i (by omega)];simp[nth,List.getD_eq_getElem?_getD,List.getElem?_take,show i < 80 by omega]
 ·exact .inr rfl
 rw[List.length_drop] at hi
 have a:¬ c=80:=by omega
 rw[if_neg a,show o+80+i=o+(80+i) by omega,g.cell (80+i) (by omega)];simp[nth,List.getD_eq_getElem?_getD,List.getElem?_drop]
theorem rU8_ok(h:8<=l.length):(rU 8 (0,l)).2.1=0/\(rU 8 (0,l)).2.2=l.drop 8:=by
 have e:cA 8 l=.inr (bJ (l.take 8),8):=by
  unfold cA;rw[if_pos h]
 simp[rU,rdE,rdL,e]
theorem G3:∀ (k:Nat) (l:List Int),8 * k<=l.length->(rN k (0,l)).2.1=0/\(rN k (0,l)).2.2=l.drop (8 * k)
 | 0,l,_=>by simp[rN]
 | k + 1,l,h=>by
  obtain⟨h1,h2⟩:=rU8_ok (l:=l) (by omega)
  have e:(rU 8 (0,l)).2=(0,l.drop 8):=Prod.ext h1 h2;obtain⟨g1,a⟩:=G3 k (l.drop 8) (by rw[List.length_drop];omega);simp only[rN,e];refine⟨g1,?_⟩;rw[a,List.drop_drop];congr 1
  omega
theorem w8_80(ho:aJ l)(h:80<=l.length):∃ p0 p1 p2 p3 p4 p5 p6 p7 p8 p9,rN 10 (0,l)=([p0,p1,p2,p3,p4,p5,p6,p7,p8,p9],0,l.drop 80)/\l.take 80=w8 [p0,p1,p2,p3,p4,p5,p6,p7,p8,p9]/\∀ x∈([p0,p1,p2,p3,p4,p5,p6,p7,p8,p9]:List Int),In8 x:=by
 obtain⟨o,n⟩:=G3 10 l (by omega);obtain⟨⟨-,p⟩,q⟩:=kV 10 (0,l) ho;obtain⟨a,b,c,d,e,f,g,i,j,k,m⟩:=ir (gg 10 (0,l));refine⟨a,b,c,d,e,f,g,i,j,k,?_,?_,λx hx=>p x (by rw[m];exact hx)⟩
 ·rw[<- m];exact Prod.ext rfl (Prod.ext o n)
 have:=(q o).2;rw[m,n] at this
 have r:l=w8 [a,b,c,d,e,f,g,i,j,k] ++ l.drop 80:=this;rw[r,List.take_append_of_le_length (by rw[bW];simp),List.take_of_length_le (by rw[bW];simp)]
theorem DJ{p0 p1 p2 p3 p4 p5 p6 p7 p8 p9:Int}(A:ByA w b ao n c l)(t:l=w8 [p0,p1,p2,p3,p4,p5,p6,p7,p8,p9])(hr:∀ x∈([p0,p1,p2,p3,p4,p5,p6,p7,p8,p9]:List Int),In8 x):CP 26 #[.slice ao n c] w λe w'=>e=.returned (.tuple #[.agg #[.int .u64 p0,.int .u64 p1,.int .u64 p2,.int .u64 p3,.int .u64 p4,.int .u64 p5,.int .u64 p6,.int .u64 p7,.int .u64 p8,.int .u64 p9],.int .i64 0])/\BW w w':=by
 have h:Rc.thr (Rc.pnx (λo=>([p0,p1,p2,p3,p4,p5,p6,p7,p8,p9]:List Int).getD o 0)) [(0,0),(0,1),(0,2),(0,3),(0,4),(0,5),(0,6),(0,7),(0,8),(0,9)] []=w8 [p0,p1,p2,p3,p4,p5,p6,p7,p8,p9]:=by
  simp[Rc.thr,Rc.pnx,Rc.gZ,w8]
 simp only[List.forall_mem_cons] at hr;obtain⟨r0,r1,D,r,y,C,s,z,r8,u,-⟩:=hr
 obtain⟨ys,e1,e2,-⟩:=Rc.zj (λo=>([p0,p1,p2,p3,p4,p5,p6,p7,p8,p9]:List Int).getD o 0) [(0,0),(0,1),(0,2),(0,3),(0,4),(0,5),(0,6),(0,7),(0,8),(0,9)] [] (λ_=>0) (by decide) (by
  simp only[List.forall_mem_cons]
  exact⟨r0,r1,D,r,y,C,s,z,r8,u,λ_ h=>absurd h List.not_mem_nil⟩)
 rw[h,List.append_nil] at e1
 have es:Rc.aM l=(0,[],ys):=by rw[t];exact e1
 refine(Rc.qW A).mono ?_
 rintro e w' ⟨rfl,B⟩;refine⟨?_,B⟩;rw[es];have i:=e2 (0,0) (by simp);have j:=e2 (0,1) (by simp);have q:=e2 (0,2) (by simp);have d:=e2 (0,3) (by simp);have p:=e2 (0,4) (by simp);have k:=e2 (0,5) (by simp);have m:=e2 (0,6) (by simp);have a:=e2 (0,7) (by simp);have f:=e2 (0,8) (by simp);have g:=e2 (0,9) (by simp)
 have v:∀ x:Int,Rc.DW 0 x=x:=λ_=>rfl
 simp only[v] at i j q d p k m a f g;simp[Rc.aP,Rc.dU,bS,i,j,q,d,p,k,m,a,f,g]
theorem mk_ok{s:St}(h:rU 4 (0,l)=(x,s))(hx:x=1196183089):∃ l1,s=(0,l1)/\¬ l=[]:=by
 unfold rU at h
 cases e:cA 4 l with
 | inl v =>
  simp only[e,rdV] at h;have:=congrArg Prod.fst h;simp at this;omega
 | inr v =>
  simp only[e,rdE,rdL] at h;refine⟨_,(congrArg Prod.snd h).symm,λb=>?_⟩;subst b
  have a:=congrArg Prod.fst h;simp only[rdV] at a;revert e a;unfold cA;simp
theorem Ct(A:ByA w b ao n c l)(h:¬ l=[]):b < w.heap.size:=by
 obtain⟨o,-,-,-,-,h5⟩:=A.ex
 have hl:0 < l.length:=List.length_pos_iff.2 h;exact aC (h5.cell 0 hl)
theorem oe(ho:aJ l)(h:eD l=0):∃ (l1:List Int) (g:Ge) (m1 m2:Nat) (s2 s4:St) (s3:St),rU 4 (0,l)=(1196183089,0,l1)/\80<=l1.length/\rN 10 (0,l1)=(g.p,0,l1.drop 80)/\rU 4 (0,l1.drop 80)=((m1:Int),s2)/\m1<=256/\rN (m1 * 2) s2=(g.a,s3)/\rU 4 s3=((m2:Int),s4)/\m2<=64/\rN (m2 * 3) s4=(g.v,0,[])/\bG g m1 m2=l/\gD l=g:=by
 obtain⟨na,b,j,i,ok,hb,-,-⟩:=GW ho h
 have e:l=be 4 mk0 ++ (w8 (gD l).p ++ (be 4 na ++ (w8 (gD l).a ++ (be 4 b ++ (w8 (gD l).v ++ []))))):=by rw[List.append_nil];exact hb.symm
 have k:rU 4 (0,l)=(mk0,0,w8 (gD l).p ++ (be 4 na ++ (w8 (gD l).a ++ (be 4 b ++ (w8 (gD l).v ++ []))))):=by
  conv=>lhs;rw[e]
  exact kY 4 mk0 _ (by decide) (by decide)
 have c:rN 10 (0,w8 (gD l).p ++ (be 4 na ++ (w8 (gD l).a ++ (be 4 b ++ (w8 (gD l).v ++ [])))))=((gD l).p,0,be 4 na ++ (w8 (gD l).a ++ (be 4 b ++ (w8 (gD l).v ++ [])))):=by
  have:=kZ (gD l).p (be 4 na ++ (w8 (gD l).a ++ (be 4 b ++ (w8 (gD l).v ++ [])))) ok.rp;rw[ok.p] at this;exact this
 have d:(w8 (gD l).p ++ (be 4 na ++ (w8 (gD l).a ++ (be 4 b ++ (w8 (gD l).v ++ []))))).drop 80=be 4 na ++ (w8 (gD l).a ++ (be 4 b ++ (w8 (gD l).v ++ []))):=by
  rw[List.drop_append_of_le_length (by rw[bW,ok.p];decide),List.drop_eq_nil_of_le (by rw[bW,ok.p];decide),List.nil_append]
 have f:(256:Int) ^ 4=4294967296:=rfl;refine⟨_,gD l,na,b,(0,w8 (gD l).a ++ (be 4 b ++ (w8 (gD l).v ++ []))),(0,w8 (gD l).v ++ []),(0,be 4 b ++ (w8 (gD l).v ++ [])),k,by rw[List.length_append,bW,ok.p];omega,by rw[d];exact c,by rw[d];exact kY 4 na _ (by omega) (by rw[f];omega),j,?_,kY 4 b _ (by omega) (by rw[f];omega),i,?_,hb,rfl⟩
 ·rw[<- ok.a];exact kZ _ _ ok.ra
 rw[<- ok.v];exact kZ _ _ ok.rv
theorem oQ(hn:¬ eD l=0)(h:¬ 65536 < l.length:=by omega):eD l=210:=by
 unfold eD at hn ⊢;rw[if_neg h] at hn ⊢;split
 ·rename_i hh;rw[if_pos hh] at hn;exact absurd rfl hn
 rfl
theorem ex1{s:St}(ho:aJ l)(E:rU 4 (0,l)=(x,s))(h:¬ x=1196183089):¬ eD l=0:=λe=>by
 obtain⟨l1,g,m1,m2,s2,s4,s3,q1,-⟩:=oe ho e;rw[E] at q1;exact h (congrArg Prod.fst q1)
theorem ex2(ho:aJ l)(E:rU 4 (0,l)=(1196183089,0,l1))(h:l1.length < 80):¬ eD l=0:=λe=>by
 obtain⟨l1',g,m1,m2,s2,s4,s3,q1,q2,-⟩:=oe ho e;rw[E] at q1
 cases q1;omega
theorem ex3{s2:St}(ho:aJ l)(E:rU 4 (0,l)=(1196183089,0,l1))(d:rU 4 (0,l1.drop 80)=(x,s2))(h:256 < x):¬ eD l=0:=λe=>by
 obtain⟨b,g,i,f,c,s4,s3,q1,k,j,a,m,-⟩:=oe ho e;rw[E] at q1
 cases q1;rw[d] at a
 cases a;omega
theorem ex4{s2 s3 s4:St}(ho:aJ l)(E:rU 4 (0,l)=(1196183089,0,l1))(k:rU 4 (0,l1.drop 80)=((m:Int),s2))(f:rN (m * 2) s2=(A,s3))(n:rU 4 s3=(x,s4))(h:64 < x):¬ eD l=0:=λe=>by
 obtain⟨i,g,p,q,j,o,d,q1,u,r,a,s,c,b,t,-⟩:=oe ho e;rw[E] at q1
 cases q1;rw[k] at a;have e1:=congrArg Prod.fst a;have e2:=congrArg Prod.snd a;simp only at e1 e2;obtain rfl:m=p:=by omega
 subst e2;rw[f] at c
 cases c;rw[n] at b
 cases b;omega
theorem ex5{V P:List Int}{s2 s3 s4 f:St}(ho:aJ l)(E:rU 4 (0,l)=(1196183089,0,l1))(t:rN 10 (0,l1)=(P,0,l1.drop 80))(s:rU 4 (0,l1.drop 80)=((m:Int),s2))(p:rN (m * 2) s2=(A,s3))(u:rU 4 s3=((k:Int),s4))(v:rN (k * 3) s4=(V,f))(h:¬ bS f.1 f.2=0\/¬ bG ⟨P,A,V⟩ m k=l):¬ eD l=0:=λe=>by
 obtain⟨q,g,x,n,r,w,o,q1,B,j,d,y,c,b,z,a,i,-⟩:=oe ho e;rw[E] at q1
 cases q1;rw[t] at j;rw[s] at d;have e1:=congrArg Prod.fst d;have e2:=congrArg Prod.snd d;simp only at e1 e2;obtain rfl:m=x:=by omega
 subst e2;rw[p] at c;have a1:=congrArg Prod.fst c;have a2:=congrArg Prod.snd c;simp only at a1 a2;subst a2;rw[u] at b;have e3:=congrArg Prod.fst b;have e4:=congrArg Prod.snd b;simp only at e3 e4;obtain rfl:k=n:=by omega
 subst e4;rw[v] at a;have v1:=congrArg Prod.fst a;have v2:=congrArg Prod.snd a;simp only at v1 v2;have pp:=congrArg Prod.fst j;simp only at pp;rcases h with h | h
 ·rw[v2] at h;exact h rfl
 apply h;rw[pp,a1,v1];exact i
end
end Gn
end Go.Proofs.YtpoifdokmjhclaaGreat
