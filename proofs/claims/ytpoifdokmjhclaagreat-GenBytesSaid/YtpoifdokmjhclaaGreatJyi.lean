import Derived.Test.YtpoifdokmjhclaaGreatJyh
set_option maxRecDepth 100000
set_option maxHeartbeats 8000000
namespace Go.Proofs.YtpoifdokmjhclaaGreat
section
namespace Kv
open Go.RowKit Go.Lib Pg
attribute [local go_sem] Oper.semAt_some
section
variable {E:aD}{k:List Int}{w:World}{K D F V:Nat->Prop}{g n N m:Nat}{W:List aD}{kv jv:Value}{Q:List (List KV)}{T T0:List Jr}{oj:Option Nat}
theorem zL(h:ox E)(hn:(look E k).isSome=false):rem E k=E:=by
 obtain⟨X,Y,c,⟨rfl,e⟩ | ⟨x,rfl,e⟩⟩:=h.cut k
 ·exact c.DT
 rw[e] at hn;cases hn
theorem lh(h:SA w K D g E W n N) :
  CP 158 #[.pointer (some ⟨g,0,none⟩)] w λe w'=>e=.returned (.int .i64 W.length)/\w'=w:=by
 obtain⟨F,V,m,Q,d,T,f,hX,c,b⟩:=h.open;have a:=b.len;simp at a;rw[<- a];exact qi hX
theorem sget(h:SA w K D g E W n N)(hk:BK w K kv k)(hn:n<=4000000000000000000)(C:N<=100000000) :
  Calls Tryz.prog 39 #[.pointer (some ⟨g,0,none⟩),kv] w λe w'=>∃ v,e=.returned (.tuple #[v,.bool (look E k).isSome])/\OB w' (w.heap.size <= ·) v ((look E k).getD [])/\SA w' K D g E W (n+1) N/\Chg K w w':=by
 obtain⟨F,V,m,Q,y,T,G,hX,rfl,s⟩:=h.open;obtain⟨x,c,rfl⟩:=hk.shape;have u:=fX hX hn;have t:=aG hX;have A:=aG s;have q:=aG hk;clear hX s hk h;obtain⟨kn,d⟩:∃ kn,Hid (k.length=kn):=⟨_,rfl⟩
 rw[d.out] at q ⊢;have o:=λw' (X:SX w' K D F V g m Q y T G (n+1) N) (hk:By w' (.slice x kn c) k)=>mU X hk C
 obtain⟨r,p⟩:∃ r,(look Q.flatten k).isSome=r:=⟨_,rfl⟩
 obtain⟨L,l⟩:∃ L,(look Q.flatten k).getD []=L:=⟨_,rfl⟩
 rw[p,l] at o ⊢;clear p l;go_enter Tryz.func39,Tryz.ntmps39;go_wp2_with first
  | (go_at_call 70;go_must (refine u.mono ?_);rintro e z ⟨rfl,f,j⟩;have c0:=f.blk.cell (i:=0) rfl)
  | (go_at_call 71;go_must (refine(o _ f (q.out _ (t.out.kg j))).mono ?_);rintro e J ⟨v,rfl,O,B⟩;obtain⟨a1,c1,rfl⟩:∃ a1 c1,v=.slice a1 L.length c1:=(by obtain⟨a1,c1,e,_⟩:=O.by.ex;exact⟨a1,c1,e⟩);generalize L.length=I at *)
 go_ret2;exact⟨_,rfl,O.mono (λb _ h=>by have:=j.size;have H:z.heap.size<=b:=h;show w.heap.size<=b;omega),(f.keep B).shut rfl A.out,fi (t.out.kg j) (Chg.of B)⟩
theorem shas(h:SA w K D g E W n N)(hk:BK w K kv k)(hn:n<=4000000000000000000)(v:N<=100000000) :
  Calls Tryz.prog 94 #[.pointer (some ⟨g,0,none⟩),kv] w λe w'=>e=.returned (.bool (look E k).isSome)/\SA w' K D g E W (n+1) N/\Chg K w w':=by
 obtain⟨F,V,m,Q,s,T,x,hX,rfl,o⟩:=h.open;obtain⟨q,c,rfl⟩:=hk.shape;have u:=fX hX hn;have p:=aG hX;have t:=aG o;have l:=aG hk;clear hX o hk h;obtain⟨kn,b⟩:∃ kn,Hid (k.length=kn):=⟨_,rfl⟩
 rw[b.out] at l ⊢;have d:=λw' (X:SX w' K D F V g m Q s T x (n+1) N) (hk:By w' (.slice q kn c) k)=>qH X hk v
 obtain⟨r,i⟩:∃ r,(look Q.flatten k).isSome=r:=⟨_,rfl⟩
 rw[i] at d ⊢;clear i;go_enter Tryz.func94,Tryz.ntmps94;go_wp2_with first
  | (go_at_call 70;go_must (refine u.mono ?_);rintro e y ⟨rfl,f,j⟩)
  | (go_at_call 138;go_must (refine(d _ f (l.out _ (p.out.kg j))).mono ?_);rintro e z ⟨rfl,B⟩)
 go_ret;exact⟨rfl,(f.keep B).shut rfl t.out,fi (p.out.kg j) (Chg.of B)⟩
theorem Fq(hX:SX w K D F V g m Q jv T oj n N)(p:gy (T.reverse.map Jr.U) W Q.flatten)(hk:BK w K kv k)(hn:n<=4000000000000000000)(r:N+2<=100000000)(hr:(look Q.flatten k).isSome=false) :
  Calls Tryz.prog 131 #[.pointer (some ⟨g,0,none⟩),kv] w (Ends w K D g (rem Q.flatten k) W (n+1) (N+2) (.bool false)):=by
 obtain⟨y,c,rfl⟩:=hk.shape;have u:=fX hX hn;have j:=aG hX;have t:=aG p;have o:=aG hk
 have s:N<=99999998:=by omega
 replace r:N<=100000000:=by omega
 clear hX p hk;obtain⟨kn,f⟩:∃ kn,Hid (k.length=kn):=⟨_,rfl⟩
 rw[f.out] at o ⊢;go_enter Tryz.func131,Tryz.ntmps131;go_wp2_with first
  | (go_at_call 70;go_must (refine u.mono ?_);rintro e x ⟨rfl,d,l⟩;have i:=qH d (o.out _ (j.out.kg l)) r;rw[hr] at i)
  | (go_at_call 138;go_must (refine i.mono ?_);rintro e z ⟨rfl,q⟩;clear i;replace d:=d.keep q;have v:=fi (j.out.kg l) (Chg.of q))
 go_ret;have e:=zL j.out.map.ord.flat hr;exact⟨rfl,K,((d.shut e.symm (by rw[e];exact t.out)).more (by omega)).mono (λ_ _ h=>.inl h),λb h=>.inl h,v⟩
theorem Ag(hX:SX w K D F V g m Q jv [] oj n N)(t:gy ([].reverse.map Jr.U) W Q.flatten)(hk:BK w K kv k)(hn:n<=4000000000000000000)(v:N+2<=100000000)(hr:(look Q.flatten k).isSome=true) :
  Calls Tryz.prog 131 #[.pointer (some ⟨g,0,none⟩),kv] w (Ends w K D g (rem Q.flatten k) W (n+1) (N+2) (.bool true)):=by
 obtain⟨H,c,rfl⟩:=hk.shape;have u:=fX hX hn;have x:=aG hX;have B:=aG t;have l:=aG hk
 have A:N<=99999998:=by omega
 replace v:N<=100000000:=by omega
 clear hX t hk;obtain⟨kn,f⟩:∃ kn,Hid (k.length=kn):=⟨_,rfl⟩
 rw[f.out] at l ⊢;go_enter Tryz.func131,Tryz.ntmps131;go_wp2_with first
  | (go_at_call 70;go_must (refine u.mono ?_);rintro e I ⟨rfl,d,s⟩;have j:=qH d (l.out _ (x.out.kg s)) v;rw[hr] at j)
  | (go_at_call 138;go_must (refine j.mono ?_);rintro e L ⟨rfl,p⟩;clear j;replace d:=d.keep p;have o:=fi (x.out.kg s) (Chg.of p))
  | (go_at_call 125;go_must (refine(mD d).mono ?_);rintro e y ⟨rfl,hy⟩;replace hy:=hy.symm;subst hy;have c0:=d.blk.cell (i:=0) rfl;have us:=mdel d.map (l.out _ o) (by omega);rw[j0 d.map.ord,hr] at us)
  | (go_at_call 171;go_must (refine us.mono ?_);rintro e G ⟨rfl,J,z,hF,q⟩)
 go_ret;have C:=d.mapped (N':=N) (by have:=d.tot;have:=mu (E:=Q.flatten) k;rw[fy d.map.ord];omega) z hF (λ_ h=>h) q;refine⟨rfl,_,((C.shut (E:=rem Q.flatten k) (W:=W) (fy d.map.ord k) (nm B.out)).more (by omega)).mono (λb _ hb=>?_),λb hb=>?_,?_⟩
 ·exact .inl hb
 ·rcases hb with⟨hb,_⟩ | hb
  ·exact .inl hb
  rcases hF b hb with r | r
  ·exact .inl (d.own.map b r)
  exact .inr (by have:=o.size;omega)
 exact fi o (q.mono (λb _ h=>d.own.map b h))
theorem Cg{j:Jr}(hX:SX w K D F V g m Q jv (T0 ++ [j]) oj n N)(G:gy ((T0 ++ [j]).reverse.map Jr.U) W Q.flatten)(hk:BK w K kv k)(hn:n<=4000000000000000000)(x:N+2<=100000000)(f:k.length<=1000000000)(hr:(look Q.flatten k).isSome=true) :
  Calls Tryz.prog 131 #[.pointer (some ⟨g,0,none⟩),kv] w (Ends w K D g (rem Q.flatten k) W (n+1) (N+2) (.bool true)):=by
 obtain⟨S,c,rfl⟩:=hk.shape;have u:=fX hX hn;have y:=aG hX;have L:=aG G;have q:=aG hk;replace f:=aG f
 have J:N<=99999998:=by omega
 replace x:N<=100000000:=by omega
 clear hX G hk;obtain⟨kn,r⟩:∃ kn,Hid (k.length=kn):=⟨_,rfl⟩
 rw[r.out] at q ⊢;go_enter Tryz.func131,Tryz.ntmps131;go_wp2_with first
  | (go_at_call 70;go_must (refine u.mono ?_);rintro e X ⟨rfl,p,C⟩;have t:=qH p (q.out _ (y.out.kg C)) x;rw[hr] at t)
  | (go_at_call 138;go_must (refine t.mono ?_);rintro e w2 ⟨rfl,z⟩;clear t;replace p:=p.keep z;have o:=fi (y.out.kg C) (Chg.of z))
  | (go_at_call 125;go_must (refine(py p (q.out _ o) (by have:=f.out;omega) x).mono ?_);rintro e Y ⟨rfl,R,T,P,v,d,l,I⟩;have s:=fi o I;have c0:=d.blk.cell (i:=0) rfl;have us:=mdel d.map (q.out _ s) (by omega);rw[j0 d.map.ord,hr] at us)
  | (go_at_call 171;go_must (refine us.mono ?_);rintro e O ⟨rfl,Z,H,hF,A⟩)
 go_ret;have M:=d.mapped (N':=N+1) (by have:=d.tot;have:=mu (E:=Q.flatten) k;rw[fy d.map.ord];omega) H hF (λ_ h=>h) A;refine⟨rfl,_,((M.shut (E:=rem Q.flatten k) (W:=W) (fy d.map.ord k) (oT L.out v (Bb y.out.map.ord.flat k))).more (by omega)).mono (λb _ hb=>?_),λb hb=>?_,?_⟩
 ·rcases hb with hb | hb
  ·exact .inl hb
  exact .inr (by have:=o.size;omega)
 ·rcases hb with⟨hb,_⟩ | hb
  ·exact(l b hb).imp id (λh=>by have:=o.size;omega)
  rcases hF b hb with B | B
  ·exact(l b (d.own.map b B)).imp id (λh=>by have:=o.size;omega)
  exact .inr (by have:=s.size;omega)
 exact s.trans A (λb hb h=>(l b (d.own.map b h)).elim id (λh=>by have:=o.size;omega))
theorem sdel(h:SA w K D g E W n N)(hk:BK w K kv k)(b:k.length<=1000000000)(hn:n<=4000000000000000000)(c:N+2<=100000000) :
  CP 131 #[.pointer (some ⟨g,0,none⟩),kv] w (Ends w K D g (rem E k) W (n+1) (N+2) (.bool (look E k).isSome)):=by
 obtain⟨F,V,m,Q,d,T,f,hX,rfl,a⟩:=h.open
 cases hr:(look Q.flatten k).isSome with
 | false=>exact Fq hX a hk hn c hr
 | true =>
  rcases List.eq_nil_or_concat T with rfl | ⟨e,j,rfl⟩
  ·exact Ag hX a hk hn c hr
  rw[List.concat_eq_append] at hX a;exact Cg hX a hk hn c b hr
end
section
variable {w:World}{K D V:Nat->Prop}{g n N:Nat}{Q:List (List KV)}{jv:Value}{T:List Jr}{oj oj':Option Nat}{E:aD}{W:List aD}
theorem SX.rows{w2:World}{K D F V:Nat→Prop}{m:Nat}{jv':Value}{T':List Jr}(h:SX w K D F V g m Q jv T oj n N)(hb:Blk w2 g [.pointer (some ⟨m,0,none⟩),jv',.int .i64 n] 152)(hc:Chg (λb=>oj=some b∨b=g) w w2)(f:(oj'=none∧jv'=.slice none 0 0∧T'=[])∨∃ b c,oj'=some b∧jv'=.slice (some ⟨b,0,none⟩) T'.length c∧Rw w2 265 1 b T'.length c (T'.map Jr.v))(A:∀ j ∈ T',j ∈ T∨(j.U=[]∧j.v=.slice none 0 0∧j.o=none))(r:(T'.filterMap Jr.o).Nodup)(ho:∀ b,oj'=some b→oj=some b∨w.heap.size≤b)(ht:Kv.tot T' + Q.flatten.length≤N)(B:T'.length≤16) :
    SX w2 (λb=>(K b∧¬ oj=some b)∨oj'=some b) D F V g m Q jv' T' oj' n N∧∀ j ∈ T,JrA w2 V D g j:=by
  have hx : ∀ b cs t, Blk w b cs t → t ≠ 152 → t ≠ 265 → w2.heap[b]? = w.heap[b]? := λb cs t k d q => hc.same b k.lt (λe => by
    rcases e with e | e
    · obtain⟨u,s⟩:= h.jn.kind e
      exact q (k.eq s).2
    · subst e
      exact d (k.eq h.blk).2)
  have x:∀ b,(oj=some b∨b=g)→¬ F b:=λb e=>e.elim (h.own.mP b) (λe=>by subst e;exact h.own.lp)
  have l:jA V D w w2:=⟨λb cs t _ k ht=>hx b cs t k (by rcases ht with e | e <;> subst e <;> decide) (by rcases ht with e | e <;> subst e <;> decide),λb _ _ k=>by obtain⟨cs,k⟩:= k;exact hx b cs _ k (by decide) (by decide)⟩
  have z:∀ j ∈ T,JrA w2 V D g j:=λj a=>(h.jn.each j a).stay l (λb e=>by obtain⟨cs,k⟩:= (h.jn.each j a).kind e;exact hx b cs _ k (by decide) (by decide))
  have y : ∀ b cs t, Blk w b cs t → t ≠ 265 → ¬ oj = some b := λb cs t k d e => by
    obtain⟨u,s⟩:= h.jn.kind e;exact d (k.eq s).2
  have i:∀ j ∈ T',∀ b,j.o=some b→j ∈ T:=λj a b e=>(A j a).elim id (λh=>by rw[h.2.2] at e;cases e)
  refine⟨⟨hb,h.map.same (λb hF=>hc.same b (h.map.lt hF) (λe=>x b e hF)) (λb _ _ k=>by obtain⟨cs,k⟩:= k;exact hx b cs _ k (by decide) (by decide)),⟨f,λj a=>?_,r⟩,ht,B,?_⟩,z⟩
  · rcases A j a with E | ⟨d, q, C⟩
    · exact z j E
    · exact⟨[],by rw[d];exact fj.nil _ _ _ _,.inl ⟨C,q,d⟩⟩
  · refine⟨.inl ⟨h.own.top, y g _ _ h.blk (by decide)⟩, λb hb => .inl ⟨h.own.map b hb, λe => h.own.mP b e hb⟩, λb hb => ?_, λb hb => .inr hb, λj a b e => ?_, λb hb => ?_, h.own.lp, h.own.kt, λb e => ?_, λj a b e => h.own.l5 j (i j a b e) b e, λb hv => by
      obtain⟨cs,t,k,ht⟩:= h.own.vk b hv
      exact⟨cs,t,k.same (l.var b cs t hv k ht),ht⟩⟩
    · obtain⟨cs,t,k,ht⟩:= h.own.vk b hb
      exact .inl ⟨h.own.var b hb,y b cs t k (by rcases ht with e | e <;> subst e <;> decide)⟩
    · have p:=i j a b e
      obtain⟨cs,k⟩:= (h.jn.each j p).kind e;exact .inl ⟨h.own.bck j p b e,y b cs _ k (by decide)⟩
    · rcases hb with⟨hK, hn⟩ | hb'
      · by_cases e:b=g
        · subst e;exact⟨_,_,hb,by decide⟩
        · obtain⟨cs,t,k,ht⟩:= h.own.kind b hK
          exact⟨cs,t,k.chg hc (λe2=>e2.elim hn e),ht⟩
      · rcases f with⟨e, _⟩ | ⟨b', c, e, _, hR⟩
        · rw[hb'] at e;cases e
        · rw[hb'] at e;cases e
          obtain⟨cs,k⟩:= hR.kind;exact⟨cs,_,k,by decide⟩
    · rcases ho b e with d | d
      · exact h.own.mP b d
      · intro hF;have:=h.map.lt hF;omega
theorem D8(h:JnA w V D g jv T oj)(r:T.length<=16){a:Addr}(p:w.cell? (a.add 0)=some (.slice none 0 0)) :
  ∃ jb c' w',(Builtin.append_ #[145,145] 145 #[jv,.slice (some a) 1 1]).run Tryz.prog w=.ok (.slice (some ⟨jb,0,none⟩) (T.length+1) c') w'/\(oj=some jb\/jb=w.heap.size)/\Rw w' 265 1 jb (T.length+1) c' (T.map Jr.v ++ [.slice none 0 0])/\Chg (λb=>oj=some b) w w':=by
 have d:∀ j u,[Value.slice none 0 0][j]? = some u->w.cell? (a.add j)=some u:=λj u l=>by
  have:j=0:=by have:=(List.getElem?_eq_some_iff.1 l).1;simp at this;omega
  subst this;simp at l;subst l;exact p
 rcases h.row with⟨e1,e2,e3⟩ | ⟨b,c,e1,e2,hR⟩
 ·subst e3;obtain⟨c',W,i,f,q⟩:=gN (w:=w) KJ 145 a 1 1 [.slice none 0 0] rfl d;exact⟨_,c',W,by rw[e2];exact i,.inr rfl,f,Chg.of q⟩
 obtain⟨n,c',W,i,m,f,k⟩:=dW KJ 145 hR a 1 1 [.slice none 0 0] rfl d (λv hv=>by simp at hv;subst hv;rfl);exact⟨n,c',W,by rw[e2];exact i,m.imp (λe=>by rw[e1,e]) id,f,k.mono (λx _ e=>by have o:x=b:=e;rw[e1,o])⟩
theorem se(h:SA w K D g E W n N)(b:W.length=16) :
  Calls Tryz.prog 133 #[.pointer (some ⟨g,0,none⟩)] w λe w'=>e=.returned (.int .i64 62)/\w'=w:=by
 have u:=lh h;rw[b] at u;clear h b;go_enter Tryz.func133,Tryz.ntmps133;go_wp2_with (go_at_call 158;go_must (refine u.mono ?_);rintro e y ⟨rfl,hy⟩;replace hy:=hy.symm;subst hy);go_ret;exact⟨rfl,rfl⟩
theorem yR(h:SA w K D g E W n N)(O:¬ W.length=16) :
  Calls Tryz.prog 133 #[.pointer (some ⟨g,0,none⟩)] w (Ends w K D g E (E :: W) n N (.int .i64 0)):=by
 have u:=lh h
 have A:W.length<=16:=h.depth;obtain⟨F,V,m,Q,P,T,L,hX,rfl,I⟩:=h.open
 have p:T.length=W.length:=by have:=I.len;simp at this;exact this
 have al:=aa w (.cells #[.slice none 0 0] 265);have bl:=ay w [.slice none 0 0] 265;have c:=hX.keep al;obtain⟨d,o,v,C,f,H,z⟩:=D8 c.jn c.len (a:=⟨w.heap.size,0,none⟩) (bl.cell (i:=0) rfl)
 have J:¬ L=some g:=λe=>by
  obtain⟨cs,k⟩:=c.jn.kind e;exact absurd (c.blk.eq k).2 (by decide)
 have t:=c.blk.chg z J;have c1:=hX.blk.cell (i:=1) rfl;have f1:=t.free 1;have s:=t.cell (i:=1) rfl;obtain⟨a1,c2,B⟩:=hX.jn.shape
 have l:Hid (∃ K',SA (v.setCell ⟨g,1,none⟩ (.slice (some ⟨d,0,none⟩) (T.length+1) o)) K' (λb=>D b\/w.heap.size<=b) g Q.flatten (Q.flatten :: W) n N/\(∀ b,K' b->K b\/w.heap.size<=b)/\Chg K w (v.setCell ⟨g,1,none⟩ (.slice (some ⟨d,0,none⟩) (T.length+1) o))):=by
  have r:Chg (λb=>L=some b\/b=g) (w.alloc (.cells #[.slice none 0 0] 265)) (v.setCell ⟨g,1,none⟩ (.slice (some ⟨d,0,none⟩) (T.length+1) o)):=(z.mono (λb _ e=>.inl e)).cell (.inl (.inr rfl)) _
  have G:d≠g:=λe=>by
   subst e;obtain⟨cs,k⟩:=H.kind;exact absurd (t.eq k).2 (by decide)
  have S:=(c.rows (jv':=.slice (some ⟨d,0,none⟩) (T.length + 1) o) (T':=T ++ [⟨[],.slice none 0 0,none⟩]) (oj':=some d) (t.setCell (i:=1) _) r (.inr ⟨d,o,rfl,by simp,by
   have:=H.same (w':=v.setCell ⟨g,1,none⟩ (.slice (some ⟨d,0,none⟩) (T.length+1) o)) (Below.heap_setCell _ _ _ _ G)
   simpa using this⟩) (λj M=>by
    rcases List.mem_append.1 M with h | h
    ·exact .inl h
    simp at h;subst h;exact .inr ⟨rfl,rfl,rfl⟩) (by rw[mC];simpa using c.jn.apart) (λb e=>by cases e;exact f.imp id (λe=>by omega)) (by rw[gu];simpa using c.tot) (by simp;omega)).1
  refine⟨_,(S.shut rfl (W:=Q.flatten :: W) ?_).mono (λ_ _ h=>.inl h),λb hb=>?_,?_⟩
  ·rw[List.reverse_append];simp only[List.reverse_cons,List.reverse_nil,List.nil_append,List.cons_append,List.map_cons];exact⟨rfl,I⟩
  ·rcases hb with⟨h1,_⟩ | h1
   ·exact .inl h1
   cases h1;rcases f with e | e
   ·exact .inl (hX.own.jrn _ e)
   exact .inr (by have:=al.size;omega)
  exact(Chg.of (F:=K) al).trans r (λb _ e=>e.elim (hX.own.jrn b) (λe=>by subst e;exact hX.own.top))
 subst B;rw[p] at c1 s C l
 have x:¬ ((W.length:Int)=16):=by omega
 clear hX c I h H z t f J bl;obtain⟨q,hq⟩:∃ q,W.length=q:=⟨_,rfl⟩
 rw[hq] at u c1 s C l x A;clear hq p O;go_enter Tryz.func133,Tryz.ntmps133;go_wp2_with first
  | (go_at_call 158;go_must (refine u.mono ?_);rintro e y ⟨rfl,hy⟩;replace hy:=hy.symm;subst hy)
  | (at_builtin;refine Lib.wpList_append_run _ rfl _ _ _ _ rfl _ _ rfl rfl _ _ C ?_)
 go_ret;exact⟨rfl,l.out⟩
end
section
variable {tmps:Array Value}{w:World}{g m n N:Nat}{v jv bv:Value}{V D K F:Nat->Prop}{j:Jr}{Q:List (List KV)}{T T0 T1:List Jr}{oj:Option Nat}{W:List aD}{E:aD}
theorem lF{fn:Func}{p:Tmp}{ty:TypeId}(h:fn.results=#[.cell p ty])(hp:tmps.getD p undef=.pointer (some ⟨g,0,none⟩))(b:(loadVar ty ⟨g,0,none⟩).run Tryz.prog w=.ok v w):(results fn tmps).run Tryz.prog w=.ok v w:=by
 have a:tmps[p]?.getD undef=.pointer (some ⟨g,0,none⟩):=by simpa using hp
 simp[results,h,a,asAddr,b]
theorem ld_jn{o:Nat}(c:w.cell? ⟨g,o,none⟩=some v):(loadVar 265 ⟨g,o,none⟩).run Tryz.prog w=.ok (.agg #[v]) w:=by
 go_simp
theorem ky(h:JrA w V D g j):∃ a n c,j.v=.slice a n c:=by
 obtain⟨cs,_,⟨_,e,_⟩ | ⟨b,c,_,e,_⟩⟩:=h
 ·exact⟨_,_,_,e⟩
 exact⟨_,_,_,e⟩
theorem SX.same{w':World}(h:SX w K D F V g m Q jv T oj n N)(h1:∀ b,K b->w'.heap[b]?=w.heap[b]?)(a:∀ b,b < w.heap.size->D b->(∃ cs,Blk w b cs 5)->w'.heap[b]?=w.heap[b]?):SX w' K D F V g m Q jv T oj n N :=
 ⟨h.blk.same (h1 g h.own.top),h.map.same (λb hF=>h1 b (h.own.map b hF)) a,h.jn.stay ⟨λb _ _ hv _ _=>h1 b (h.own.var b hv),a⟩ (λb e=>h1 b (h.own.jrn b e)) (λj c b e=>h1 b (h.own.bck j c b e)),h.tot,h.len,h.own.same h1⟩
theorem xend(h:SX w K D F V g m Q jv (T0 ++ [j]) oj n N) :
  Calls Tryz.prog 177 #[.pointer (some ⟨g,0,none⟩)] w λe w'=>e=.returned (.agg #[j.v])/\∃ K' jv',SX w' K' D F V g m Q jv' T0 oj n N/\JrA w' V D g j/\(∀ b,K' b->K b\/w.heap.size<=b)/\Chg K w w':=by
 obtain⟨d,c,rfl,rfl,y⟩:=h.jn.last;obtain⟨a1,x,c1,p⟩:=ky (h.jn.each j (by simp))
 have hlen:T0.length<=15:=by have:=h.len;simp at this;omega
 have hle:=y.le;have f:=aa w (.cells #[.slice none 0 0] 265)
 have s0:(w.alloc (.cells #[.slice none 0 0] 265)).heap.size=w.heap.size+1:=by simp
 have R:=(h.blk.keep f).cell (i:=1) rfl;have Z:=(y.keep f).cell (i:=T0.length) (v:=j.v) (by simp);rw[p] at Z;have o:=aa (w.alloc (.cells #[.slice none 0 0] 265)) (.cells #[.slice a1 x c1] 265);have J:=(h.keep f).keep o;have Y:=(y.keep f).keep o;have z0:=(ay w [.slice none 0 0] 265).keep o;have z1:=ay (w.alloc (.cells #[.slice none 0 0] 265)) [.slice a1 x c1] 265;rw[s0] at z1;have S:=J.blk.cell (i:=1) rfl
 have L:=delJ Y (i:=T0.length) (by omega) (λv hv=>by
  obtain⟨t,M,rfl⟩:=List.mem_map.1 hv;obtain⟨a,n,c,e⟩:=ky (J.jn.each t M)
  rw[e];rfl)
 rw[show T0.length+1 - 1=T0.length by omega] at L
 have jlt:d < w.heap.size:=y.lt
 have glt:g < w.heap.size:=h.blk.lt
 have B:g≠d:=λe=>by
  subst e;obtain⟨cs,k⟩:=y.kind;exact absurd (h.blk.eq k).2 (by decide)
 have l:=aG J;have W:=aG z0;have X:=aG z1;have T:=aG (ae f o);have z:=aG h;have HJV:=aG p;rw[p];clear J Y z0 z1 h y o p hle
 have hq:(T0.length:Int)<=15:=by omega
 obtain⟨q,r⟩:∃ q,Hid (T0.length=q):=⟨_,rfl⟩
 rw[r.out] at R Z S L hq;clear hlen;go_enter Tryz.func177,Tryz.ntmps177;go_wp2_with (go_at_call 218;go_must (refine L.mono ?_);rintro e s ⟨rfl,O,u⟩;have H:=l.out.blk.chg u B;have z0:=W.out.chg u (by omega);have z1:=X.out.chg u (by omega);have d1:=H.cell (i:=1) rfl;have d2:=H.free 1;have d3:=z0.cell (i:=0) rfl;have d4:=z0.free 0;have d5:=z1.cell (i:=0) rfl;replace H:=aG H;replace z0:=aG z0;replace z1:=aG z1;replace O:=aG O;replace u:=aG u)
 have A:w.heap.size≠g:=by omega
 have b4:=(z0.out.off A (i:=1) (.slice (some ⟨d,0,none⟩) q c)).setCell (i:=0) (.slice a1 x c1);refine bodyPost_ret (lF rfl rfl (ld_jn (b4.cell (i:=0) rfl))) rfl ?_
 refine⟨rfl,?_⟩
 have I:Chg (λb=>some d=some b\/b=g) ((w.alloc (.cells #[.slice none 0 0] 265)).alloc (.cells #[.slice a1 x c1] 265)) (s.setCell ⟨g,1,none⟩ (.slice (some ⟨d,0,none⟩) q c)):=(u.out.mono (λb _ e=>.inl (by have e':b=d:=e;rw[e']))).cell (.inl (.inr rfl)) _;have G:=O.out.same (w':=s.setCell ⟨g,1,none⟩ (.slice (some ⟨d,0,none⟩) q c)) (Below.heap_setCell _ _ _ _ (λe=>B e.symm));have E:=l.out.jn.apart;rw[mC,jg] at E
 obtain⟨S4,J4⟩:=l.out.rows (jv':=.slice (some ⟨d,0,none⟩) q c) (T':=T0) (oj':=some d) (H.out.setCell (i:=1) _) I (.inr ⟨d,c,rfl,by rw[r.out],by
  rw[r.out]
  have e:(List.map Jr.v (T0 ++ [j])).take (q * 1) ++ (List.map Jr.v (T0 ++ [j])).drop ((q+1) * 1)=T0.map Jr.v:=by
   rw[Nat.mul_one,Nat.mul_one,<- r.out,List.map_append,List.take_left' (by simp),List.drop_of_length_le (by simp),List.append_nil]
  rw[e] at G
  exact G⟩) (λt M=>.inl (List.mem_append_left _ M)) E.1 (λb e=>.inl e) (by have:=l.out.tot;rw[gu] at this;omega) (by have:=l.out.len;simp at this;omega)
 have hx:∀ b,b≠w.heap.size->((s.setCell ⟨g,1,none⟩ (.slice (some ⟨d,0,none⟩) q c)).setCell ⟨w.heap.size,0,none⟩ (.slice a1 x c1)).heap[b]?=(s.setCell ⟨g,1,none⟩ (.slice (some ⟨d,0,none⟩) q c)).heap[b]?:=λb hb=>Below.heap_setCell _ _ _ _ hb
 have bx:=z0.out.off A (i:=1) (.slice (some ⟨d,0,none⟩) q c)
 have hu:∀ b,(∃ cs,Blk (s.setCell ⟨g,1,none⟩ (.slice (some ⟨d,0,none⟩) q c)) b cs 5)->b≠w.heap.size:=λb hk e=>by
  obtain⟨cs,k⟩:=hk;subst e;exact absurd (bx.eq k).2 (by decide)
 have U:∀ b,K b->b < w.heap.size:=λb hb=>by obtain⟨cs,t,k,_⟩:=z.out.own.kind b hb;exact k.lt
 have C:∀ b,((K b/\¬ some d=some b)\/some d=some b)->K b:=λb hb=>by
  rcases hb with⟨h1,_⟩ | h1
  ·exact h1
  cases h1;exact z.out.own.jrn _ rfl
 have P:jA V D (s.setCell ⟨g,1,none⟩ (.slice (some ⟨d,0,none⟩) q c)) ((s.setCell ⟨g,1,none⟩ (.slice (some ⟨d,0,none⟩) q c)).setCell ⟨w.heap.size,0,none⟩ (.slice a1 x c1)):=⟨λb _ _ hv _ _=>hx b (by have:=U b (z.out.own.var b hv);omega),λb _ _ k=>hx b (hu b k)⟩
 refine⟨_,_,S4.same (λb hb=>hx b (by have:=U b (C b hb);omega)) (λb _ _ k=>hx b (hu b k)),(J4 j (by simp)).stay P (λb e=>hx b (by have:=U b (z.out.own.bck j (by simp) b e);omega)),λb hb=>.inl (C b hb),?_⟩;have h5:=(Chg.of (F:=K) T.out).trans I (λb _ e=>e.elim (λe=>by cases e;exact z.out.own.jrn _ rfl) (λe=>by subst e;exact z.out.own.top));exact h5.cell (.inr (Nat.le_refl _)) _
theorem uO{a j':Jr}(h:gy ((T1 ++ [a] ++ [j]).reverse.map Jr.U) W E)(b:j'.U=a.U ++ j.U):gy ((T1 ++ [j']).reverse.map Jr.U) W.tail E:=by
 rw[List.reverse_append,List.reverse_append] at h;rw[List.reverse_append];simp only[List.reverse_cons,List.reverse_nil,List.nil_append,List.cons_append,List.map_cons] at h ⊢
 match W,h with
 | e2 :: e1 :: W,⟨h1,h2,h3⟩=>exact⟨by rw[b,yN,h1];exact h2,h3⟩
theorem EE(h:JrA w V D g j):∃ cs,fj w V D g j.U cs/\FD w j.v cs:=by
 obtain⟨cs,a,⟨e1,e2,e3⟩ | ⟨b,c,e1,e2,d⟩⟩:=h
 ·exact⟨cs,a,.inl ⟨e2,List.eq_nil_of_length_eq_zero (by rw[a.1,e3];rfl)⟩⟩
 exact⟨cs,a,.inr ⟨_,c,by rw[a.1];exact e2,λi x hx=>by rw[Addr.add_lit,Nat.zero_add];exact d.cell hx⟩⟩
theorem xnote0(h:SX w K D F V g m Q jv [] oj n N) :
  Calls Tryz.prog 159 #[.pointer (some ⟨g,0,none⟩),bv] w λe w'=>e=.returned (.tuple #[])/\w'=w:=by
 have b:=qi h;clear h;go_enter Tryz.func159,Tryz.ntmps159;go_wp2_with (go_at_call 158;go_must (refine b.mono ?_);rintro e y ⟨rfl,hy⟩;replace hy:=hy.symm;subst hy);go_end0;exact⟨rfl,rfl⟩
theorem vd(h:SA w K D g E [] n N) :
  Calls Tryz.prog 137 #[.pointer (some ⟨g,0,none⟩)] w λe w'=>e=.returned (.int .i64 62)/\w'=w:=by
 have u:=lh h;clear h;go_enter Tryz.func137,Tryz.ntmps137;go_wp2_with (go_at_call 158;go_must (refine u.mono ?_);rintro e y ⟨rfl,hy⟩;replace hy:=hy.symm;subst hy);go_ret;exact⟨rfl,rfl⟩
theorem DC(h:SX w K D F V g m Q jv T0 oj n N)(k:JrA w V D g j)(hv:j.v=bv)(ht:Kv.tot T0+j.U.length+Q.flatten.length<=N)(q:N<=100000000)(c:gy ((T0 ++ [j]).reverse.map Jr.U) W Q.flatten) :
  CP 159 #[.pointer (some ⟨g,0,none⟩),bv] w λe w'=>e=.returned (.tuple #[])/\∃ K',SA w' K' D g Q.flatten W.tail n N/\(∀ b,K' b->K b\/w.heap.size<=b)/\Chg K w w':=by
 rcases List.eq_nil_or_concat T0 with rfl | ⟨p,o,rfl⟩
 ·refine(xnote0 h).mono ?_
  rintro e w' ⟨rfl,rfl⟩;refine⟨rfl,K,h.shut rfl ?_,λb=>.inl,Chg.refl _ _⟩
  match W,c with
  | e :: W,⟨_,h2⟩=>exact nm h2
 rw[List.concat_eq_append] at h c ht;obtain⟨cs,d,i⟩:=EE k;subst hv;refine(GX (N':=N) h d i (Nat.le_refl _) ht (by omega)).mono ?_
 rintro e w' ⟨rfl,K',l,a,X,f,hc⟩;exact⟨rfl,K',X.shut rfl (uO c a),f,hc⟩
theorem vh(h:SA w K D g E W n N)(o:W≠[])(P:N<=100000000) :
  Calls Tryz.prog 137 #[.pointer (some ⟨g,0,none⟩)] w (Ends w K D g E W.tail n N (.int .i64 0)):=by
 have u:=lh h;obtain⟨F,V,m,Q,S,T,Z,hX,rfl,i⟩:=h.open
 have c:T.length=W.length:=by have:=i.len;simp at this;exact this
 rcases List.eq_nil_or_concat T with rfl | ⟨O,j,rfl⟩
 ·exact absurd (List.eq_nil_of_length_eq_zero c.symm) o
 rw[List.concat_eq_append] at hX i c;have t:=xend hX
 have r:Kv.tot O+j.U.length+Q.flatten.length<=N:=by have:=hX.tot;rw[gu] at this;exact this
 obtain⟨a1,z,c1,d⟩:=ky (hX.jn.each j (by simp));rw[d] at t;have H:=aG d;have J:=aG i;have G:=aG r
 have l:¬ ((W.length:Int)=0):=by have:=List.length_pos_iff.2 o;omega
 clear hX i h c o d r;obtain⟨q,hq⟩:∃ q,W.length=q:=⟨_,rfl⟩
 rw[hq] at u l;clear hq
 have s:∀ w,(Instr.field 265 (.agg #[.slice a1 z c1]) 0).run Tryz.prog w=.ok (.slice a1 z c1) w:=λw=>by kernel_rfl
 go_enter Tryz.func137,Tryz.ntmps137;go_wp2_with first
  | (go_at_call 158;go_must (refine u.mono ?_);rintro e y ⟨rfl,hy⟩;replace hy:=hy.symm;subst hy)
  | (go_at_call 177;go_must (refine t.mono ?_);rintro e X ⟨rfl,R,L,C,B,f,x⟩)
  | (go_at_call 159;go_must (refine(DC C B H.out G.out P J.out).mono ?_);rintro e Y ⟨rfl,A,M,p,I⟩)
 go_ret;refine⟨rfl,A,M.mono (λ_ _ h=>.inl h),λb hb=>?_,x.trans I (λb hb e=>(f b e).elim id (λh=>by omega))⟩;rcases p b hb with v | v
 ·exact f b v
 exact .inr (by have:=x.size;omega)
end
section
variable {n c:Nat}{ao:Option Addr}{Q:List Value}{Rd:World->Prop}{w:World}
def ArBF(Q:List Value)(i:Nat)(args:Array Value)(_:Nat)(_:World):Prop:=∃ p j,j+1+i=Q.length/\Q[j]?=some p/\args=#[.int .i64 (j:Int),p]
theorem xq{Tp:TypeId->Prop}{bs:Nat}(hn:Q.length=n)(hbig:n<=1000000000)(r:∀ p∈Q,∃ f cap,p=.func (.func f) #[] cap)(hb:∀ V,Rd V->V.cell? ⟨bs,0,none⟩=some (.slice ao n c)/\∀ j p,Q[j]?=some p->∃ b o,ao=some ⟨b,o,none⟩/\V.cell? ⟨b,o+j,none⟩=some p) :
  Itr Tp 217 #[.pointer (some ⟨bs,0,none⟩)] n (ArBF Q) Rd:=by
 intro l J L W M G t F C;have D:=(hb W (t 0 W C)).1
 have hb:Hid _:=hb
 have hn:Hid _:=hn;replace r:=aG r
 have R:IntKind.i64.wrap ((n:Int) - 1)=(n:Int) - 1:=by rw[IntKind.wrap_i64];omega
 refine(callsIn_wide (n:=0)).1 ?_
 refine callsIn_of_wp Tryz.func217 rfl trivial ?_ rfl;simp only[Tryz.ntmps217,List.size_toArray,List.length_cons,List.length_nil,Nat.reduceAdd,Nat.reduceSub,Array.replicate_succ,Array.replicate_zero,List.push_toArray,List.append_toArray,List.nil_append,List.cons_append];gi_wp2;gi_loopw [3] (λB wr=>∃ i:Nat,i<=n/\B=.int .i64 ((n:Int) - 1 - (i:Int))/\W.heap.size<=wr.heap.size/\J i wr) (λB _=>(intOf B+1).toNat)
 case atStart=>exact⟨0,Nat.zero_le _,by simp,Nat.le_refl _,C⟩
 case round =>
  clear D;obtain⟨i,hi,rfl,d,g⟩:=hrel;obtain⟨D,q⟩:=hb.out wr (t _ _ g);by_cases s:i < n
  ·obtain⟨j,y⟩:∃ j,j+1+i=n:=⟨n - 1 - i,by omega⟩
   obtain⟨p,z⟩:∃ p,Q[j]?=some p:=⟨Q[j]'(by have:=hn.out;omega),List.getElem?_eq_getElem _⟩
   obtain⟨b,o,rfl,K⟩:=q j p z;obtain⟨f,cap,rfl⟩:=r.out p (List.mem_of_getElem? z)
   have u:(n:Int) - 1 - (i:Int)=(j:Int):=by omega
   have I:Hid (j+1+i=n):=y;have A:=F i _ wr wr s g d (Below.refl _ _) ⟨_,j,by rw[hn.out];exact y,z,rfl⟩;obtain⟨fn,tmps,assign,body,hy,H⟩:=A;rw[u]
   have N:IntKind.i64.wrap ((j:Int) - 1)=(j:Int) - 1:=by rw[IntKind.wrap_i64];omega
   have z1:(j:Int) < n:=by omega
   clear q u y;gi_wp2;refine⟨rfl,H.mono ?_⟩;rintro O P ⟨x,⟨rfl,m⟩ | ⟨rfl,m⟩⟩
   ·gi_wp2;go_roundw
    case rel=>exact⟨i+1,by omega,by have:=I.out;congr 1;omega,Nat.le_trans d x.size,m⟩
    case measure=>simp[intOf]
   gi_wp2;refine bodyPost_ret (results_none rfl _ _ _) rfl ?_
   exact⟨⟨_,rfl⟩,Nat.le_trans d x.size,.inr ⟨i,s,m⟩⟩
  have v:i=n:=by omega
  have u:(n:Int) - 1 - (i:Int)=-1:=by omega
  rw[u]
  have E:Hid (J n wr):=by show J n wr;rw[<- v];exact g
  clear q u v g;gi_wp2;go_end0;exact⟨⟨_,rfl⟩,d,.inl E.out⟩
theorem zg:Calls Tryz.prog 176 #[.slice ao n c] w λe w'=>e=.returned (.func (.func 217) #[] #[.pointer (some ⟨w.heap.size,0,none⟩)])/\Blk w' w.heap.size [.slice ao n c] 263/\BW w w':=by
 go_enter Tryz.func176,Tryz.ntmps176;go_wp2;go_ret;exact⟨rfl,ay w _ _,aa w _⟩
end
section
variable {w w' w2 X Y:World}{B g m n N bs i jj:Nat}{K D F V:Nat->Prop}{Q:List (List KV)}{jv p:Value}{T T0:List Jr}{oj:Option Nat}{cs xs:List Value}{j:Jr}
def RowC(w:World)(F:Nat->Prop)(v:Value)(cs:List Value):Prop:=(v=.slice none 0 0/\cs=[])\/∃ b c,v=.slice (some ⟨b,0,none⟩) cs.length c/\Rw w 1 1 b cs.length c cs/\¬ F b
structure RbI(w w2:World)(K D F V:Nat->Prop)(g m:Nat)(Q:List (List KV))(jv:Value)(T0:List Jr)(oj:Option Nat)(n N:Nat)(j:Jr)(cs:List Value)(bs i:Nat)(X:World):Prop where
 ex:∃ K' D' F' Q',SX X K' D' F' V g m Q' jv T0 oj n N/\fj X V D' g j.U cs/\RowC X F' j.v cs/\Blk X bs [j.v] 263/\Q'.flatten=iX (j.U.drop (j.U.length - i)) Q.flatten/\Kv.tot T0+Q'.flatten.length+(j.U.length - i)<=N/\(∀ b,K' b->K b\/w.heap.size<=b)/\(∀ b,D' b->D b\/w.heap.size<=b)/\(∀ b,F' b->F b\/w2.heap.size<=b)/\Chg K w X/\w2.heap.size<=X.heap.size
theorem SX.rcd(h:SX w K D F V g m Q jv T oj n N)(hr:Rec B w w'):SX w' K D F V g m Q jv T oj n N :=
 h.same (λb hb=>by obtain⟨cs,t,k,_⟩:=h.own.kind b hb;rw[(hr.blk k).blk,k.blk]) (λb _ _ hk=>by obtain⟨cs,k⟩:=hk;rw[(hr.blk k).blk,k.blk])
theorem fj.rcd{U:List Und}(h:fj w V D g U cs)(hr:Rec B w w'):fj w' V D g U cs :=
 h.stay ⟨λb _ _ _ k _=>by rw[(hr.blk k).blk,k.blk],λb _ _ hk=>by obtain⟨cs,k⟩:=hk;rw[(hr.blk k).blk,k.blk]⟩
theorem Rw.rcd{E:TypeId}{k b c:Nat}(h:Rw w E k b n c xs)(hr:Rec B w w'):Rw w' E k b n c xs:=by
 obtain⟨cs,hk⟩:=h.kind;exact h.same (by rw[(hr.blk hk).blk,hk.blk])
theorem qE{w1:World}(h:Chg K w w1)(hr:Rec B w1 w')(c:w.heap.size<=B):Chg K w w' :=
 ⟨hr.os.trans h.os,hr.tape.trans h.tape,hr.output.trans h.output,Nat.le_trans h.size hr.size,λb hb hk=>by
  have e:=h.same b hb hk;rw[<- e]
  have a:b < w1.heap.size:=Nat.lt_of_lt_of_le hb h.size;rw[Array.getElem?_eq_getElem a]
  exact hr.same b _ (Array.getElem?_eq_getElem a) (.inl (by omega))⟩
theorem RbI.rcd(h:RbI w w2 K D F V g m Q jv T0 oj n N j cs bs i X)(hr:Rec w2.heap.size X Y)(hw:w.heap.size<=w2.heap.size):RbI w w2 K D F V g m Q jv T0 oj n N j cs bs i Y:=by
 obtain⟨z,t,k,u,o,f,s,l,q,v,p,r,x,a,d⟩:=h.ex;refine⟨z,t,k,u,o.rcd hr,f.rcd hr,s.imp id ?_,hr.blk l,q,v,p,r,x,qE a hr hw,Nat.le_trans d hr.size⟩;rintro⟨b,c,e,y,hn⟩;exact⟨b,c,e,Rw.rcd y hr,hn⟩
theorem RbI.keep(h:RbI w w2 K D F V g m Q jv T0 oj n N j cs bs i X)(hb:BW X Y)(hw:w.heap.size<=w2.heap.size):RbI w w2 K D F V g m Q jv T0 oj n N j cs bs i Y:=h.rcd (Rec.of hb) hw
theorem xT{α:Type}{U:List α}{u:α}(b:jj+1+i=U.length)(hu:U[jj]?=some u):U.drop (U.length - (i+1))=u :: U.drop (U.length - i):=by
 have e1:U.length - (i+1)=jj:=by omega
 have e2:U.length - i=jj+1:=by omega
 obtain⟨a,rfl⟩:=List.getElem?_eq_some_iff.1 hu;rw[e1,e2];exact List.drop_eq_getElem_cons a
theorem RbI.step(h:RbI w w2 K D F V g m Q jv T0 oj n N j cs bs i X)(L:bs < w2.heap.size)(B:¬ F bs)(hj:jj+1+i=cs.length)(hp:cs[jj]?=some p)(hN:N<=100000000)(hw:w.heap.size<=w2.heap.size) :
  ∃ f cap,p=.func (.func f) #[] cap/\(f=205\/f=206)/\CP f cap X λe Y=>e=.returned (.tuple #[])/\RbI w w2 K D F V g m Q jv T0 oj n N j cs bs (i+1) Y/\bM (λt=>t≠5) w2.heap.size X Y:=by
 obtain⟨K',D',G,H,q,s,h3,R,h5,h6,z,T,I,y,A⟩:=h.ex;have hlen:=s.1;obtain⟨u,hu⟩:∃ u,j.U[jj]?=some u:=⟨j.U[jj]'(by omega),List.getElem?_eq_getElem _⟩
 have E:=s.2 jj u p hu hp;obtain⟨f,cap,e,d⟩:=Gr q E hN (by omega);refine⟨f,cap,e,?_,d.mono ?_⟩
 ·obtain⟨s1,s2,kv,v1,v2,b1,b2,ok,⟨_,e2⟩ | ⟨s3,vv,x,v3,b3,ov,_,e2⟩⟩:=E.ex
  ·rw[e] at e2;cases e2;exact .inl rfl
  rw[e] at e2;cases e2;exact .inr rfl
 rintro e Y ⟨rfl,O,Q2,S2,r,l,hc⟩
 have a:∀ b,G b->K' b:=q.own.map
 have v:jA V D' X Y:=⟨λb _ _ hv k _=>hc.same b k.lt (q.own.kt b hv),λb W _ k=>hc.same b W (λf=>by obtain⟨cs,k⟩:=k;exact q.map.noU f cs k)⟩
 have C:¬ G bs:=λhf=>(I bs hf).elim B (λh=>by omega)
 refine⟨rfl,⟨_,_,O,Q2,S2,(s.stay v).mono (λ_ h=>h) (λ_ _ h=>.inl h),?_,R.chg hc C,?_,?_,λb hb=>?_,λb hb=>?_,λb hb=>?_,?_,?_⟩,?_⟩
 ·rcases h3 with h | ⟨b,c,e,J,hn⟩
  ·exact .inl h
  exact .inr ⟨b,c,e,J.chg hc hn,λhf=>(l b hf).elim hn (λh=>by have:=J.lt;omega)⟩
 ·rw[r,h5,xT (by omega) hu];rfl
 ·have:=CF q.map.ord.flat u;rw[r]
  have P:H.flatten.length=H.flatten.length:=rfl;omega
 ·rcases hb with⟨hb,_⟩ | hb
  ·exact z b hb
  rcases l b hb with h | h
  ·exact z b (a b h)
  exact .inr (by omega)
 ·rcases hb with hb | hb
  ·exact T b hb
  exact .inr (by omega)
 ·rcases l b hb with h | h
  ·exact I b h
  exact .inr (by omega)
 ·exact y.trans hc (λb hb hf=>(z b (a b hf)).elim id (λh=>by omega))
 ·exact Nat.le_trans A hc.size
 refine⟨hc.size,λk o _ hk S=>(hc.same k (lt_of_block hk) (λhf=>?_)).trans hk⟩;obtain⟨Z,t,kb,M⟩:=q.own.kind k (a k hf);rw[kb.blk] at hk
 cases hk;exact S _ _ _ rfl M
end
section
variable {w:World}{K D:Nat->Prop}{g n N:Nat}{E:aD}{W:List aD}
theorem rk(h:SA w K D g E [] n N) :
  Calls Tryz.prog 136 #[.pointer (some ⟨g,0,none⟩)] w λe w'=>e=.returned (.int .i64 62)/\w'=w:=by
 have u:=lh h;clear h;go_enter Tryz.func136,Tryz.ntmps136;go_wp2_with (go_at_call 158;go_must (refine u.mono ?_);rintro e y ⟨rfl,hy⟩;replace hy:=hy.symm;subst hy);go_ret;exact⟨rfl,rfl⟩
theorem rG{K D:Nat→Prop}{e0:aD}(h:SA w K D g E (e0 :: W) n N)(hN:N≤100000000) :
    Calls Tryz.prog 136 #[.pointer (some ⟨g,0,none⟩)] w (Ends w K D g e0 W n N (.int .i64 0)):=by
  have u:=lh h;obtain⟨F,V,m,Q,jv,T,oj,hX,rfl,hB⟩:= h.open;rcases List.eq_nil_or_concat T with rfl | ⟨T0,j,rfl⟩
  · exact hB.elim
  rw[List.concat_eq_append] at hX hB;have ue:=xend hX;have Y:=hX.tot;rw[gu] at Y;rw[List.reverse_append] at hB;obtain⟨S,d⟩:iX j.U Q.flatten=e0∧gy (T0.reverse.map Jr.U) W e0:=hB
  have af:∀ b,K b→b < w.heap.size:=λb hb=>by obtain⟨cs,t,k,_⟩:= hX.own.kind b hb;exact k.lt
  obtain⟨a1,n1,c1,M⟩:= ky (hX.jn.each j (by simp));rw[M] at ue;have HV:=aG M;have HX:=aG hX;have H1:=aG S;have H2:=aG d
  have hlW:¬ (((e0 :: W).length:Int)=0):=by simp;omega
  clear h hX M S d;generalize (e0 :: W).length=q at *
  have hfld:∀ w,(Instr.field 265 (.agg #[.slice a1 n1 c1]) 0).run Tryz.prog w=.ok (.slice a1 n1 c1) w:=λw=>by kernel_rfl
  refine(callsIn_wide (n:=0)).1 ?_
  refine callsIn_of_wp_marks Tryz.func136 rfl trivial ?_ rfl;simp only[Tryz.ntmps136,List.size_toArray,List.length_cons,List.length_nil,Nat.reduceAdd,Nat.reduceSub,Array.replicate_succ,Array.replicate_zero,List.push_toArray,List.append_toArray,List.nil_append,List.cons_append]
  gi_wp2_with (first
    | (refine⟨trivial,rfl,?_⟩;gi_at_call 158;refine(callsIn_wide.2 u).mono ?_;rintro e' y ⟨rfl,hy⟩;replace hy:=hy.symm;subst hy)
    | (refine⟨trivial,rfl,?_⟩;gi_at_call 177;refine(callsIn_wide.2 ue).mono ?_;rintro e' O ⟨rfl,K1,L,X1,J1,hK1,C1⟩)
    | (refine⟨trivial,rfl,?_⟩;gi_at_call 176;refine(callsIn_wide.2 zg).mono ?_;rintro e' C ⟨rfl,P,d⟩))
  have hs1:w.heap.size≤O.heap.size:=C1.size
  have Z:O.heap.size < C.heap.size:=P.lt
  have l:w.heap.size≤C.heap.size:=by omega
  obtain⟨cs,hC,hr⟩:= J1
  have hU:cs.length=j.U.length:=hC.1
  have hFK:∀ b,F b→b < w.heap.size:=λb hb=>af b (HX.out.own.map b hb)
  have s:RowC C F j.v cs:=by
    rcases hr with⟨_,e2,e3⟩ | ⟨b,c,e1,e2,hR⟩
    · exact .inl ⟨e2,List.eq_nil_of_length_eq_zero (by rw[hU,e3];rfl)⟩
    · exact .inr ⟨b,c,by rw[hU];exact e2,by rw[hU];exact hR.keep d,HX.out.own.l5 j (by simp) b e1⟩
  have ag : ∀ p ∈ cs, ∃ f cap, p = .func (.func f) #[] cap := λp z => by
    obtain⟨i,hi⟩:= List.getElem?_of_mem z;have hlt:=(List.getElem?_eq_some_iff.1 hi).1;obtain⟨s1,s2,kv,v1,v2,b1,b2,ok,⟨_,e2⟩ | ⟨s3,vv,x,v3,b3,ov,_,e2⟩⟩:= (hC.2 i (j.U[i]'(by omega)) p (List.getElem?_eq_getElem _) hi).ex
    · exact⟨_,_,e2⟩
    · exact⟨_,_,e2⟩
  have H:cs.length≤1000000000:=by omega
  have hn1:n1=cs.length:=by
    have e:=HV.out;rcases s with⟨e2,e3⟩ | ⟨b,c,e2,_⟩
    · rw[e2] at e;cases e;rw[e3];rfl
    · rw[e2] at e;cases e;rfl
  subst hn1
  have I0:RbI w C K D F V g m Q L T0 oj n N j cs O.heap.size 0 C:=⟨K1,D,F,Q,X1.keep d,hC.stay ⟨λb _ _ _ k _=>d.block b k.lt,λb hl _ _=>d.block b hl⟩,s,by rw[HV.out];exact P,by rw[Nat.sub_zero,List.drop_of_length_le (Nat.le_refl _)];rfl,by omega,hK1,λ_ h=>.inl h,λ_ h=>.inl h,C1.trans (Chg.of (F:=K) d) (λ_ _ h=>h),Nat.le_refl _⟩
  have ae:¬ F O.heap.size:=λhf=>by have:=hFK _ hf;omega
  have IT := xq (Tp := λt => t ≠ 5) (bs := O.heap.size) (c := c1) (ao := a1) (Q := cs) (n := cs.length) (Rd := λX => ∃ i, RbI w C K D F V g m Q L T0 oj n N j cs O.heap.size i X) rfl H ag (λX ⟨i, R⟩ => by
    obtain⟨K',D',F',Q',h1,h2,h3,h4,-⟩:= R.ex;rw[HV.out] at h4;refine⟨h4.cell (i:=0) rfl,λjj p z=>?_⟩;rcases h3 with⟨_,e⟩ | ⟨b,c,e2,hR,_⟩
    · rw[e] at z;simp at z
    · have e:=HV.out
      rw[e2] at e
      cases e
      exact⟨b,0,rfl,by rw[Nat.zero_add];exact hR.cell z⟩)
  replace H1:=aG H1.out;have HI0:=aG I0;clear X1 hC hr s ag I0 P d;refine kL IT (by rfl) (enters_of Tryz.func217 (by kernel_rfl) rfl) (λi args n V V' h _=>h) (λi args n V h=>by obtain⟨p,j,_,_,rfl⟩:= h;rfl)
    (λi X=>RbI w C K D F V g m Q L T0 oj n N j cs O.heap.size i X) (λ_ _ _=>False)
    (λi A B hx hr=>hx.rcd hr l) (λ_ _ _ _ hx _=>hx) (λi X hx=>⟨i,hx⟩) HI0.out ?_ ?_ ?_
  · rintro l2 i args V' Wv hl2 hlV hrec hiN R hb ⟨p,jj,hj,z,rfl⟩
    obtain⟨f,cap,G,hff,-⟩:= R.step Z ae hj z hN l;subst G;simp;gi_wp2;refine⟨Below.refl _ _,?_⟩;intro V2 W2 ad ab ac aa hsz3 hV2 r hrec2;obtain⟨f',cap',G,-,o⟩:= (ad.keep ab l).step Z ae hj z hN l
    cases G;clear R hb ad ab ac aa;rcases hff with rfl | rfl
    · gi_wp2_with (refine⟨trivial,rfl,?_⟩;gi_at_call 205;refine(CallsIn.inRound l2 (callsIn_wide.2 o)).mono ?_;rintro e' w5 ⟨rfl,I,J⟩)
      exact⟨J,I⟩
    · gi_wp2_with (refine⟨trivial,rfl,?_⟩;gi_at_call 206;refine(CallsIn.inRound l2 (callsIn_wide.2 o)).mono ?_;rintro e' w5 ⟨rfl,I,J⟩)
      exact⟨J,I⟩
  · rintro D' W' hD hK R
    gi_wp2;refine⟨by simp,.inl ⟨_,_,rfl,run_takeDeferred hK,?_⟩⟩;have R3:=Rec.put (B:=C.heap.size) hK rfl hD (.deferred none);obtain⟨K',D2,F',Q',h1,h2,h3,h4,h5,h6,h7,h8,h9,h10,h11⟩:= (R.rcd R3 l).ex;refine⟨_,results_tmp rfl _ _ _,?_⟩;rw[hU,Nat.sub_self,List.drop_zero,H1.out] at h5;exact⟨rfl,K',(h1.shut h5 H2.out).mono (λb _ h=>h8 b h),h7,h10⟩
  · rintro D' c i W' hD hK hi hF
    exact hF.elim
theorem yg(h:SA w K D g E W n N)(a:N<=100000000) :
  CP 136 #[.pointer (some ⟨g,0,none⟩)] w (Ends w K D g (W.headD E) W.tail n N (.int .i64 (if W=[] then 62 else 0))):=by
 cases W with
 | nil =>
  refine(rk h).mono ?_
  rintro e b ⟨rfl,rfl⟩;exact⟨by simp,K,h.mono (λ_ _ h=>.inl h),λ_=>.inl,Chg.refl _ _⟩
 | cons e0 W=>simpa using rG h a
theorem Gp(h:SA w K D g E W n N)(a:N<=100000000) :
  CP 137 #[.pointer (some ⟨g,0,none⟩)] w (Ends w K D g E W.tail n N (.int .i64 (if W=[] then 62 else 0))):=by
 cases W with
 | nil =>
  refine(vd h).mono ?_
  rintro e b ⟨rfl,rfl⟩;exact⟨by simp,K,h.mono (λ_ _ h=>.inl h),λ_=>.inl,Chg.refl _ _⟩
 | cons e0 W=>simpa using vh h (by simp) a
theorem sbegin(h:SA w K D g E W n N) :
  CP 133 #[.pointer (some ⟨g,0,none⟩)] w (Ends w K D g E (if W.length=16 then W else E :: W) n N (.int .i64 (if W.length=16 then 62 else 0))):=by
 by_cases a:W.length=16
 ·rw[if_pos a,if_pos a];refine(se h a).mono ?_
  rintro e b ⟨rfl,rfl⟩;exact⟨rfl,K,h.mono (λ_ _ h=>.inl h),λ_=>.inl,Chg.refl _ _⟩
 rw[if_neg a,if_neg a];exact yR h a
end
section
variable {n:Nat}{ops:Array Oper}{rest:List Oper}{w:World}{v jv:Value}{Q:List (List KV)}{T:List Jr}{oj:Option Nat}{X:Nat->Prop}
theorem rz{F:Fence}{Q:Exit->Act->World->Prop}{o:Oper}{a:Act}{w':World}(b:o.guard=none)(hF:∀ f,F.fn f)(hs:o.semAt F.round a.eval=execOp a.eval o)(hrun:(execOp a.eval o).run Tryz.prog w=.ok (.value v) w')(h:wpListIn F n Tryz.prog ops Q rest (a.put o.dst v) w'):wpListIn F n Tryz.prog ops Q (o :: rest) a w :=
 wpListIn_plain b λK c=>by
  unfold Oper.wpIn;rw[hs,hrun,Oper.uponIn_value];exact⟨λf _=>hF f,c _ _ h⟩
theorem SX.wm{K D F V:Nat->Prop}{g m:Nat}{N:Nat}(h:SX w K D F V g m Q jv T oj n N)(d:N<=100000000)(h1:∀ b,X b->¬ F b)(a:∀ b,X b->∀ cs,¬ Blk w b cs 5)(c:∀ b,X b->b < w.heap.size) :
  ∃ L,Wm w X F D m L/\∀ f t,(wlk (ens L) f t).map En.kl2=Q.flatten.filter (Ab f t):=by
 obtain⟨L,rfl,A,O,S,k,r⟩:=h.map.ex;exact⟨L,⟨A,O,λes he=>(S.one es he).2,S.few k d,r,h1,a,c⟩,λf t=>Az O f t⟩
end
section
variable {g x:Nat}{V W1:World}{E:List En}{args:Array Value}{X:Nat→Prop}
def tick(g:Nat)(V:World)(x:Nat):World:=V.setCell ⟨g,2,none⟩ (.int .i64 ((x:Int)+1))
def ItrC(Tp:TypeId->Prop)(g x0:Nat)(gf:Nat)(lb:Array Value)(N:Nat)(Ar:Nat->Array Value->Nat->World->Prop)(Rd:World->Prop):Prop :=
 ∀ (l:Nat) (J0:World->Prop) (J Jt Jx:Nat->World->Prop) (W:World),St W.heap.size J0->(∀ i,St W.heap.size (J i))->(∀ i,St W.heap.size (Jt i))->(∀ i,St W.heap.size (Jx i))->g < W.heap.size ->
  (∀ V,J0 V->V.cell? ⟨g,2,none⟩=some (.int .i64 x0)/\V.frozen? ⟨g,2,none⟩=false/\Rd V/\J 0 (tick g V x0)) ->
  (∀ i V,J i V->V.cell? ⟨g,2,none⟩=some (.int .i64 ((x0+1+i:Nat):Int))/\V.frozen? ⟨g,2,none⟩=false/\Rd V/\(i < N->Jt i (tick g V (x0+1+i)))) ->
  (∀ i args V V',i < N->Jt i V->W.heap.size<=V.heap.size->BW V V'->Ar i args V.heap.size V'->YieldAt Fence.wide 0 Tryz.prog l args V' λe V''=>bM Tp W.heap.size V' V''/\((e=.returned (.bool true)/\J (i+1) V'')\/(e=.returned (.bool false)/\Jx (i+1) V''))) ->
  J0 W ->
  Calls Tryz.prog gf (#[.func (.yield l) #[] #[]] ++ lb) W λe W'=>(∃ v,e=.returned v)/\W.heap.size<=W'.heap.size/\(J N W'\/∃ i,i < N/\Jx (i+1) W')
theorem uT{b:World}(hb:BW V b):Below (tick g V x).heap.size (tick g V x) (tick g b x):=by
 unfold tick;refine⟨hb.os,hb.tape,hb.output,by simpa[World.setCell] using hb.size,λk hk=>?_⟩
 have a:k < V.heap.size:=by simpa[World.setCell] using hk
 by_cases e:k=g
 ·subst e;have c:=hb.block k a;simp only[World.setCell,Array.getElem?_modify,c]
 rw[Below.heap_setCell _ _ _ _ (by exact e),Below.heap_setCell _ _ _ _ (by exact e)];exact hb.block k a
theorem fw(g x:Nat)(V:World):(tick g V x).heap.size=V.heap.size:=by simp[tick,World.setCell]
theorem ee(g x:Nat)(V:World):Chg (·=g) V (tick g V x):=(Chg.refl (·=g) V).cell (.inl rfl) _
theorem Aj{i n:Nat}(h:ArC E i args n V)(j:∃ cs,Blk V g cs 152):ArC E i args n (tick g V x):=by
 obtain⟨e,kv,vv,s,m,c,f,l,o⟩:=h
 have a:∀ b,b=g->∀ cs,¬ Blk V b cs 5:=λb hb cs k=>by
  subst hb;obtain⟨d,p⟩:=j;exact absurd (k.eq p).2 (by decide)
 exact⟨e,kv,vv,s,m,c,f.chg (ee g x V) a,l.chg (ee g x V) a,o⟩
def RdC(X:Nat->Prop)(W1:World)(g bs1 bs2 bw:Nat)(V:World):Prop:=Chg X W1 V/\Blk V bs1 [.pointer (some ⟨g,0,none⟩)] 46/\Blk V bs2 [.func (.func 347) #[] #[.pointer (some ⟨bw,0,none⟩)]] 291/\∃ cs,Blk V g cs 152
theorem sc{Tp:TypeId→Prop}{bs1 bs2 bw x0:Nat}(IT:Itr Tp 347 #[.pointer (some ⟨bw,0,none⟩)] E.length (ArC E) (λV=>Chg X W1 V))(hT:¬ Tp 38)(hx:x0+E.length≤3000000000000000000) :
    ItrC Tp g x0 303 #[.pointer (some ⟨bs1,0,none⟩),.pointer (some ⟨bs2,0,none⟩)] E.length (ArC E) (RdC X W1 g bs1 bs2 bw):=by
  intro l J0 J Jt Jx W hS0 F hSt T hgW G hJ hY Y;have B1:=aa W (.cells #[.func (.yield l) #[] #[]] 38);have Y1:=ay W [.func (.yield l) #[] #[]] 38;have J1:=hS0 _ _ Y (Rec.of B1);obtain⟨q1,q2,⟨r1,r2,r3,r4⟩,q3⟩:= G _ J1
  have s1:(W.alloc (.cells #[.func (.yield l) #[] #[]] 38)).heap.size=W.heap.size+1:=by simp
  have cs:=r2.cell (i:=0) rfl;have uc:=ll (g:=g) q1 q2;have Yt:=Y1.chg (ee g x0 _) (by omega);have K:=(hJ 0 _ q3).2.2.1;have cw:=K.2.2.1.cell (i:=0) rfl;have HY:=aG hY;have HJ:=aG hJ;clear G hJ hY Y J1 B1 Y1 r1 r2 r3 r4 q1 q2;obtain⟨Z,H⟩:∃ Z,Hid (W.alloc (.cells #[.func (.yield l) #[] #[]] 38)=Z):=⟨_,rfl⟩;rw[H.out] at q3 s1 uc Yt K cw;refine(callsIn_wide (n:=0)).1 ?_
  refine callsIn_of_wp_marks Tryz.func303 rfl trivial ?_ rfl;simp only[Tryz.ntmps303,List.size_toArray,List.length_cons,List.length_nil,Nat.reduceAdd,Nat.reduceSub,Array.replicate_succ,Array.replicate_zero,List.push_toArray,List.append_toArray,List.nil_append,List.cons_append];have tsz:=fw g x0 Z;gi_wp2_with (refine⟨trivial,rfl,?_⟩;gi_at_call 70;rw[H.out];refine(callsIn_wide.2 uc).mono ?_;rintro e' w0 ⟨rfl,hw0⟩;obtain rfl:w0=tick g Z x0:=hw0;clear uc cs);generalize tick g Z x0=Wt at *
  have sT:Wt.heap.size=W.heap.size+1:=by omega
  refine kL IT (by rfl) (enters_of Tryz.func347 (by kernel_rfl) rfl) (λi args n V V' h hc=>h.cel hc) (λi args n V h=>by obtain⟨e,kv,vv,s,_,rfl,_⟩:= h;rfl)
    (λi V=>J i V∧W.heap.size+1≤V.heap.size∧Blk V W.heap.size [.func (.yield l) #[] #[]] 38)
    (λc i V=>c=.ret∧Jx i V∧W.heap.size+1≤V.heap.size)
    (λi A B hx C=>⟨F i A B hx.1 (C.mono (by omega)),Nat.le_trans hx.2.1 C.size,my hx.2.2 C⟩)
    (λc i A B hx C=>⟨hx.1,T i A B hx.2.1 (C.mono (by omega)),Nat.le_trans hx.2.2 C.size⟩)
    (λi V hv=>(HJ.out i V hv.1).2.2.1.1) ⟨q3,by omega,Yt⟩ ?_ ?_ ?_
  · rintro l2 i args V Wv hl hlV hrec f ⟨hJi,D,hY2⟩ hb ⟨e0,kv,vv,s0,he0,rfl,M,hv0,_⟩
    obtain⟨ak,nk,hk1⟩:= M.shape;obtain⟨av,nv,hv1⟩:= hv0.shape;subst hk1 hv1;simp;gi_wp2;refine⟨Below.refl _ _,?_⟩;intro V2 d L P y b j I m U r hrec2;obtain⟨p1,p2,⟨k1,k2,k3,k4⟩,p3⟩:= HJ.out i V2 L
    have glt:g < V2.heap.size:=by obtain⟨cs,k⟩:= k4;exact k.lt
    have c2:d.cell? ⟨g,2,none⟩=some (.int .i64 ((x0+1+i:Nat):Int)):=by rw[b.cell (p:=⟨g,2,none⟩) glt];exact p1
    have z:∃ cs,Blk d g cs 152:=by obtain⟨cs,k⟩:= k4;exact⟨cs,k.keep b⟩
    have f2:d.frozen? ⟨g,2,none⟩=false:=by obtain⟨cs,k⟩:= z;exact k.free 2
    have cs2:=(k2.keep b).cell (i:=0) rfl;have O:=ll (g:=g) c2 f2;have u:=(y.keep b).chg (ee g (x0+1+i) d) (by omega);have yb:=u.cell (i:=0) rfl;have v:=Aj (x:=x0+1+i) j z;rw[← fw g (x0+1+i) V2] at v;have hYY:=HY.out i _ _ _ f (p3 f) (by rw[fw];omega) (uT (x:=x0+1+i) b) v;obtain⟨fn,tmps,assign,body,hy,hR⟩:= hYY
    have Q:RoundIn (Fence.wide.inRound l2) 0 Tryz.prog l fn tmps assign body (tick g d (x0+1+i)) _:=⟨hR.1,λc cs _=>hR.2 c cs (λ_ h=>by cases h)⟩
    have N:bM Tp Wt.heap.size d (tick g d (x0+1+i)):=⟨by rw[fw];exact Nat.le_refl _,λk o hk Y _=>((ee g (x0+1+i) d).same k (lt_of_block Y) (by omega)).trans Y⟩;have HK:=aG N;have HYW:=aG u;have HR:=aG Q;replace m:=aG m;replace U:=aG U
    have hWs:W.heap.size+1≤d.heap.size:=Nat.le_trans P b.size;have tsz2:=aG (fw g (x0+1+i) d);clear hJi M hv0 hb I j v hR Q N u p1 p2 p3 k1 k2 k3 k4 z c2 f2 y b L tsz;gi_wp2_with (refine⟨trivial,rfl,?_⟩;gi_at_call 70;refine(CallsIn.inRound l2 (callsIn_wide.2 O)).mono ?_;rintro e' w3 ⟨rfl,hw3⟩;obtain rfl:w3=tick g d (x0+1+i):=hw3;clear O cs2);refine⟨rfl,HR.out.mono ?_⟩;rintro e' w5 ⟨S,h5⟩;have hY5:=S.blk HYW.out (Nat.le_refl _) hT
    have t:bM Tp Wt.heap.size d w5:=HK.out.trans (S.mono (by omega))
    have q:W.heap.size+1≤w5.heap.size:=Nat.le_trans hWs t.size;rcases h5 with⟨rfl,hJ5⟩ | ⟨rfl,hJ5⟩
    · gi_wp2
      exact⟨t,hJ5,q,hY5⟩
    · gi_wp2
      exact⟨t,rfl,hJ5,q⟩
  · rintro D' W' hD hK ⟨hJn,D,y⟩
    gi_wp2;refine⟨by simp,.inl ⟨_,_,rfl,run_takeDeferred hK,?_⟩⟩;exact⟨_,results_none rfl _ _ _,⟨_,rfl⟩,by simp;omega,.inl (F _ _ _ hJn (Rec.put hK rfl (by omega) _))⟩
  · rintro D' c i W' hD hK f ⟨rfl,R,D⟩
    gi_wp2;refine⟨by simp,.inl ⟨_,_,rfl,run_takeDeferred hK,?_⟩⟩;exact⟨_,results_none rfl _ _ _,⟨_,rfl⟩,by simp;omega,.inr ⟨i,f,T (i+1) _ _ R (Rec.put hK rfl (by omega) _)⟩⟩
end
section
variable {I It:Nat->World->Prop}{Ix:Code->Nat->World->Prop}{W W' V w:World}{a:Act}{g:Operand}{lb:Array Value}{Ar:Nat→Array Value→Nat→World→Prop}{Rd:World→Prop}{ps:Array Tmp}
def qf(I It:Nat->World->Prop)(k:Nat):World->Prop:=if k % 2=0 then I (k / 2) else It (k / 2)
theorem jX(I It:Nat->World->Prop)(i:Nat):qf I It (2 * i+1)=It i:=by
 unfold qf;rw[if_neg (by omega),show (2 * i+1) / 2=i by omega]
theorem lN(I It:Nat->World->Prop)(i:Nat):qf I It (2 * i+1+1)=I (i+1):=by
 unfold qf;rw[if_pos (by omega),show (2 * i+1+1) / 2=i+1 by omega]
theorem o7{Tp:TypeId->Prop}{B:Nat}{i:Nat}{e:Exit}(h:px Tp B I Ix (i+1) W e a W'):px Tp B (qf I It) (λc k=>Ix c (k / 2)) (2 * i+1+1) W e a W':=by
 have e2:(2 * i+1+1) / 2=i+1:=by omega
 cases e<;>simp only[px] at h ⊢
 ·exact⟨h.1,by rw[lN];exact h.2⟩
 ·exact⟨h.1,by rw[e2];exact h.2⟩
 ·exact⟨h.1,by rw[e2];exact h.2⟩
 exact⟨h.1,by rw[e2];exact h.2⟩
def CQ(Tp:TypeId->Prop)(w:World)(N n:Nat)(ps:Array Tmp)(assign body:Code)(tmps:Array Value)(Ar:Nat->Array Value->Nat->World->Prop)(It I:Nat->World->Prop)(Ix:Code->Nat->World->Prop):Prop :=
 ∀ (l i:Nat) (args:Array Value) (V W:World),w.heap.size<=l->l < V.heap.size->(∃ r,V.heap[l]?=some (.loop r))->i < N->It i V->BW V W->Ar i args V.heap.size W ->
  assign.wpIn (Fence.wide.inRound l) n Tryz.prog (Exit.then (λa1 W1=>BW W W1/\∀ V2 W2,It i V2->BW V2 W2->Ar i args V2.heap.size W2->(∀ b,b≠l->W2.heap[b]?=W1.heap[b]?)->W2.heap.size=W1.heap.size->V2.heap.size=V.heap.size->(∃ r,W2.heap[l]?=some (.loop r))->body.wpIn (Fence.wide.inRound l) n Tryz.prog (px Tp w.heap.size I Ix (i+1) W2) a1 W2) (λ_ _ _=>False)) { tmps:=(ps.zip args).foldl (λt (p,v)=>t.setIfInBounds p v) tmps,defers:=[] } W
theorem fJ{g x k:Nat}(h:k≠g:=by omega):(tick g V x).heap[k]?=V.heap[k]?:=Below.heap_setCell _ _ _ _ h
theorem xw{Tp:TypeId→Prop}{t N n g0 x0:Nat}(IT:ItrC Tp g0 x0 t lb N Ar Rd){assign body:Code}{Q:Exit→Act→World→Prop}(hg:a.eval g=.func (.func t) #[] lb)(eg:∀ args w,(callFunc t args).run Tryz.prog w=.ok (.enter t args) w)(C:∀ i args n V W,Ar i args n V→Cel V W→Ar i args n W)(Z:∀ i args n V,Ar i args n V→args.size=ps.size)(G:World→Prop)(I It:Nat→World→Prop)(Ix:Code→Nat→World→Prop)(A:St w.heap.size G)(U:∀ i,St w.heap.size (I i))(u:∀ i,St w.heap.size (It i))(o:∀ c i,St w.heap.size (Ix c i))(hgw:g0 < w.heap.size)(M:∀ V,G V→V.cell? ⟨g0,2,none⟩=some (.int .i64 x0)∧V.frozen? ⟨g0,2,none⟩=false∧Rd V∧I 0 (tick g0 V x0))(hx:∀ i V,I i V→V.cell? ⟨g0,2,none⟩=some (.int .i64 ((x0+1+i:Nat):Int))∧V.frozen? ⟨g0,2,none⟩=false∧Rd V∧(i < N→It i (tick g0 V (x0+1+i))))(h0:G w)(l:CQ Tp w N n ps assign body a.tmps Ar It I Ix)(p:∀ D W,w.heap.size≤D→W.heap[D]?=some (.deferred (some []))→I N W→Q .normal { a with defers:={ target:=.collected D,args:=#[] } :: a.defers } W)(r:∀ D c i W,w.heap.size≤D→W.heap[D]?=some (.deferred (some []))→i < N→Ix c (i+1) W→c.wpIn Fence.wide n Tryz.prog Q { a with defers:={ target:=.collected D,args:=#[] } :: a.defers } W) :
    (Code.rangeFunc g ps assign body).wpIn Fence.wide n Tryz.prog Q a w:=by
  refine wpIn_rangeFunc ?_
  intro fn _;obtain⟨f,d⟩:∃ f,(w.alloc (.deferred (some []))).alloc (.loop (db fn a.tmps ps assign body w.heap.size .ready none))=f:=⟨_,rfl⟩
  have J:BW w f:=by rw[← d];exact ae (aa w _) (aa _ _)
  have hs1:f.heap.size=w.heap.size+1+1:=by rw[← d];simp
  have R:f.heap[w.heap.size+1]?=some (.loop (db fn a.tmps ps assign body w.heap.size .ready none)):=by
    rw[← d];have:=World.alloc_heap_new (w.alloc (.deferred (some []))) (.loop (db fn a.tmps ps assign body w.heap.size .ready none));rwa [World.size_alloc] at this
  have O:f.heap[w.heap.size]?=some (.deferred (some [])):=by
    rw[← d];exact(Below.heap_alloc _ _ _ (by simp)).trans (World.alloc_heap_new w _)
  have t1:∀ V x,(tick g0 V x).heap[w.heap.size+1]?=V.heap[w.heap.size+1]?:=λV x=>fJ
  have t2:∀ V x,(tick g0 V x).heap[w.heap.size]?=V.heap[w.heap.size]?:=λV x=>fJ
  refine⟨w.heap.size + 1, [{ target := .collected w.heap.size, args := #[] }], f, { target := .fn (.func t) lb, args := #[.func (.yield (w.heap.size + 1)) #[] #[]] }, f, t,
    #[.func (.yield (w.heap.size+1)) #[] #[]] ++ lb,f,?_,?_,?_,?_,λh=>(by cases h),?_⟩
  · rw[← d];exact run_enterLoop_outer _ _ _ _ _
  · simp only[resolve,hg]
    simp[go_sem]
  · intro f' _;trivial
  · simp[invoke,go_sem,eg]
  · refine callsIn_wide.2 ?_
    refine(IT (w.heap.size + 1)
      (λW=>G W∧W.heap[w.heap.size+1]?=some (.loop (db fn a.tmps ps assign body w.heap.size .ready none))∧W.heap[w.heap.size]?=some (.deferred (some [])))
      (λi W=>I i W∧W.heap[w.heap.size+1]?=some (.loop (db fn a.tmps ps assign body w.heap.size .ready none))∧W.heap[w.heap.size]?=some (.deferred (some [])))
      (λi W=>It i W∧W.heap[w.heap.size+1]?=some (.loop (db fn a.tmps ps assign body w.heap.size .ready none))∧W.heap[w.heap.size]?=some (.deferred (some [])))
      (λi W=>∃ c,Ix c i W∧W.heap[w.heap.size+1]?=some (.loop (db fn a.tmps ps assign body w.heap.size .done (some c)))∧W.heap[w.heap.size]?=some (.deferred (some [])))
      f (λX Y hx b=>⟨A X Y hx.1 (b.mono (by omega)),b.same _ _ hx.2.1 (.inl (by omega)),b.same _ _ hx.2.2 (.inl (by omega))⟩)
      (λi X Y hx b=>⟨U i X Y hx.1 (b.mono (by omega)),b.same _ _ hx.2.1 (.inl (by omega)),b.same _ _ hx.2.2 (.inl (by omega))⟩)
      (λi X Y hx b=>⟨u i X Y hx.1 (b.mono (by omega)),b.same _ _ hx.2.1 (.inl (by omega)),b.same _ _ hx.2.2 (.inl (by omega))⟩)
      (λi X Y hx b=>by obtain⟨c,T,H,L⟩:= hx;exact⟨c,o c i X Y T (b.mono (by omega)),b.same _ _ H (.inl (by omega)),b.same _ _ L (.inl (by omega))⟩)
      (by omega)
      (λV hv=>by obtain⟨q1,E,s,F⟩:= M V hv.1;exact⟨q1,E,s,F,(t1 V x0).trans hv.2.1,(t2 V x0).trans hv.2.2⟩)
      (λi V hv=>by obtain⟨q1,E,s,F⟩:= hx i V hv.1;exact⟨q1,E,s,λhi=>⟨F hi,(t1 V _).trans hv.2.1,(t2 V _).trans hv.2.2⟩⟩)
      ?_ ⟨A _ _ h0 (Rec.of J),R,O⟩).mono ?_
    · rintro i args V V' q ⟨hi,m,hk⟩ K hb S
      have b:=l _ i args V V' (by omega) (lt_of_block m) ⟨_,m⟩ q hi hb S;refine(jr (Tp:=Tp) (B:=w.heap.size) (i:=2 * i+1) (I:=qf I It) (Ix:=λc k=>Ix c (k / 2)) (Ar:=λk=>Ar (k / 2)) (λj=>C (j / 2)) (λj=>by unfold qf;split;exact U _;exact u _) (λc j=>o c _) m (by rw[jX];exact hi) hb (by rw[show (2 * i+1) / 2=i by omega];exact S) (Z _ _ _ _ S) (wpIn_mono b ?_)).mono ?_
      · intro e a1 f h
        cases e <;> first
          | (refine⟨h.1, λV2 W2 q1 E s F q5 q6 q7 => ?_⟩
             rw[jX] at q1;rw[show (2 * i+1) / 2=i by omega] at s
             exact wpIn_mono (h.2 V2 W2 q1 E s F q5 q6 q7) (λe a W h=>o7 h))
          | exact h.elim
      · rintro e V'' ⟨y,h⟩
        have z:=y.same _ _ (Nat.le_refl _) (by omega) ((hb.block _ (lt_of_block hk)).trans hk) mW;refine⟨y.from (by omega) (by omega),h.imp (λh=>⟨h.1,by have:=h.2.1;rw[lN] at this;exact this,h.2.2,z⟩) (λh=>?_)⟩;obtain⟨T,c,H,L⟩:= h;rw[show (2 * i+1+1) / 2=i+1 by omega] at H;exact⟨T,c,H,L,z⟩
    · rintro e W2 ⟨⟨v,rfl⟩,K,⟨hi,m,hk⟩ | ⟨i,q,c,hi,m,hk⟩⟩
      · exact⟨none,_,run_endLoop (P:=Tryz.prog) m (by simp[db]),p _ _ (Nat.le_refl _) ((World.putObj_heap_other (by omega)).trans hk) (U _ _ _ hi (Rec.put m rfl (by omega) _))⟩
      · exact⟨some c,_,run_endLoop (P:=Tryz.prog) m (by simp[db]),r _ c i _ (Nat.le_refl _) ((World.putObj_heap_other (by omega)).trans hk) q (o c _ _ _ hi (Rec.put m rfl (by omega) _))⟩
end
section
variable {w w' A A':World}{B n c g:Nat}{v u r:Value}{l a Q b:List Int}{x y:Int}{D:Nat->Prop}{ao:Option Addr}{Rd:World->Prop}{cs:List Value}{ops:Array Oper}{rest:List Oper}{pos:String}
theorem vx{p:Nat}(h:OB w (B <= ·) v l)(d:B<=w.heap.size)(s:l.length<=1000000000)(hx:0<=x/\x < 256)(hp:w.cell? ⟨p,0,none⟩=some (.int .u8 x)) :
  ∃ v' w',(Builtin.append_ #[29,29] 29 #[v,.slice (some ⟨p,0,none⟩) 1 1]).run Tryz.prog w=.ok v' w'/\OB w' (B <= ·) v' (l ++ [x])/\Below B w w':=by
 have o:Oct (l ++ [x]):=λy hy=>by
  rcases List.mem_append.1 hy with hy | hy
  ·exact h.oct y hy
  simp at hy;subst hy;exact hx
 have a:∀ j u,[Value.int .u8 x][j]? = some u->w.cell? ((⟨p,0,none⟩:Addr).add j)=some u:=λj u m=>by
  match j with
  | 0=>simp at m;subst m;exact hp
  | j+1=>simp at m
 rcases h.ex with⟨rfl,rfl⟩ | ⟨b,c,rfl,hl2,n⟩
 ·obtain⟨f,w',i,n,hw⟩:=gN (w:=w) KB 29 ⟨p,0,none⟩ 1 1 [.int .u8 x] rfl a;exact⟨_,w',i,⟨o,.inr ⟨_,f,rfl,d,n⟩⟩,hw.mono d⟩
 obtain⟨q,f,w',i,k,g,hw⟩:=dW (w:=w) KB 29 n ⟨p,0,none⟩ 1 1 [.int .u8 x] rfl a (by simp[Value.oneCell']);refine⟨_,w',i,⟨o,.inr ⟨q,f,by simp,?_,by rw[List.map_append,List.length_append]; exact g⟩⟩,hw.below (λx e=>by have r:x=b:=e; omega) d⟩;rcases k with rfl | rfl
 ·exact hl2
 exact d
theorem eU(h:OB w (B <= ·) v l)(d:B<=w.heap.size)(s:l.length<=1000000000)(hx:0<=x/\x < 256) :
  ∃ v' w',(Builtin.append_ #[29,29] 29 #[v,.slice (some ⟨w.heap.size,0,none⟩) 1 1]).run Tryz.prog (w.alloc (.cells #[.int .u8 x] 5))=.ok v' w'/\OB w' (B <= ·) v' (l ++ [x])/\Below B w w':=by
 have hb:=aa w (.cells #[.int .u8 x] 5);have hk:=ay w [.int .u8 x] 5
 have o:Oct (l ++ [x]):=λy hy=>by
  rcases List.mem_append.1 hy with hy | hy
  ·exact h.oct y hy
  simp at hy;subst hy;exact hx
 have a:∀ j u,[Value.int .u8 x][j]? = some u->(w.alloc (.cells #[.int .u8 x] 5)).cell? ((⟨w.heap.size,0,none⟩:Addr).add j)=some u:=λj u p=>by
  match j with
  | 0=>exact hk.cell (i:=0) p
  | j+1=>simp at p
 rcases h.ex with⟨rfl,rfl⟩ | ⟨b,c,rfl,hl2,n⟩
 ·obtain⟨f,w',k,n,hw⟩:=gN (w:=w.alloc (.cells #[.int .u8 x] 5)) KB 29 ⟨w.heap.size,0,none⟩ 1 1 [.int .u8 x] rfl a;exact⟨_,w',k,⟨o,.inr ⟨_,f,rfl,Nat.le_trans d hb.size,n⟩⟩,(hb.mono d).trans (hw.mono (Nat.le_trans d hb.size))⟩
 obtain⟨q,f,w',k,m,g,hw⟩:=dW (w:=w.alloc (.cells #[.int .u8 x] 5)) KB 29 (n.keep hb) ⟨w.heap.size,0,none⟩ 1 1 [.int .u8 x] rfl a (by simp[Value.oneCell']);refine⟨_,w',k,⟨o,.inr ⟨q,f,by simp,?_,by rw[List.map_append,List.length_append]; exact g⟩⟩,(hb.mono d).trans (hw.below (λx e=>by have r:x=b:=e; omega) (Nat.le_trans d hb.size))⟩;rcases m with rfl | rfl
 ·exact hl2
 exact Nat.le_trans d hb.size
theorem OB.sh(h:OB w D v l):∃ ao c,v=.slice ao l.length c:=by
 rcases h.ex with⟨rfl,rfl⟩ | ⟨b,c,rfl,_⟩
 ·exact⟨none,0,rfl⟩
 exact⟨_,c,rfl⟩
theorem By.lens(h:By w (.slice ao n c) l):l.length=n/\n<=c/\c<=9223372036854775807:=by
 obtain⟨ao',c',e,h2,h3,_⟩:=h.ex
 cases e;exact⟨rfl,h2,h3⟩
theorem iH{a:Act}{o:Oper}{x y:Nat}{T ty:TypeId}(b:o.type=ty)(hr:(Builtin.append_ #[T,T] ty #[u,v]).run Tryz.prog w=.ok r w')(ho:o.op=.call { callee:=.builtin .append,args:=#[.tmp x,.tmp y],argTypes:=#[T,T] }:=by kernel_rfl)(hx:a.eval (.tmp x)=u:=by kernel_rfl)(hy:a.eval (.tmp y)=v:=by kernel_rfl) :
    (execOp a.eval o).run Tryz.prog w=.ok (.value r) w':=by
  subst b;unfold execOp;simp only[ho,resolve,invoke,builtin,Sem.run_bind,Sem.run_pure,Result.andThen_ok,List.map_toArray,List.map_cons,List.map_nil,hx,hy,hr]
theorem vi(w:World)(D:Nat->Prop):OB w D (.slice none 0 0) []:=⟨λ_ h=>by simp at h,.inl ⟨rfl,rfl⟩⟩
def ArBB(Q:List Int)(i:Nat)(args:Array Value)(_:Nat)(_:World):Prop:=∃ p j,j+1+i=Q.length/\Q[j]?=some p/\args=#[.int .i64 (j:Int),.int .u8 p]
theorem xW{Tp:TypeId->Prop}{bs:Nat}(hn:Q.length=n)(hbig:n<=1000000000)(hb:∀ V,Rd V->V.cell? ⟨bs,0,none⟩=some (.slice ao n c)/\∀ j p,Q[j]?=some p->∃ b o,ao=some ⟨b,o,none⟩/\V.cell? ⟨b,o+j,none⟩=some (.int .u8 p)) :
  Itr Tp 351 #[.pointer (some ⟨bs,0,none⟩)] n (ArBB Q) Rd:=by
 intro l J I W K E r D z;have A:=(hb W (r 0 W z)).1
 have hb:Hid _:=hb
 have hn:Hid _:=hn
 have O:IntKind.i64.wrap ((n:Int) - 1)=(n:Int) - 1:=by rw[IntKind.wrap_i64];omega
 refine(callsIn_wide (n:=0)).1 ?_
 refine callsIn_of_wp Tryz.func351 rfl trivial ?_ rfl;simp only[Tryz.ntmps351,List.size_toArray,List.length_cons,List.length_nil,Nat.reduceAdd,Nat.reduceSub,Array.replicate_succ,Array.replicate_zero,List.push_toArray,List.append_toArray,List.nil_append,List.cons_append];gi_wp2;gi_loopw [3] (λy wr=>∃ i:Nat,i<=n/\y=.int .i64 ((n:Int) - 1 - (i:Int))/\W.heap.size<=wr.heap.size/\J i wr) (λy _=>(intOf y+1).toNat)
 case atStart=>exact⟨0,Nat.zero_le _,by simp,Nat.le_refl _,z⟩
 case round =>
  clear A;obtain⟨i,hi,rfl,d,f⟩:=hrel;obtain⟨A,m⟩:=hb.out wr (r _ _ f);by_cases q:i < n
  ·obtain⟨j,v⟩:∃ j,j+1+i=n:=⟨n - 1 - i,by omega⟩
   obtain⟨p,B⟩:∃ p,Q[j]?=some p:=⟨Q[j]'(by have:=hn.out;omega),List.getElem?_eq_getElem _⟩
   obtain⟨b,o,rfl,H⟩:=m j p B
   have s:(n:Int) - 1 - (i:Int)=(j:Int):=by omega
   have G:Hid (j+1+i=n):=v;have x:=D i _ wr wr q f d (Below.refl _ _) ⟨p,j,by rw[hn.out];exact v,B,rfl⟩;obtain⟨fn,tmps,assign,body,hy,F⟩:=x;rw[s]
   have L:IntKind.i64.wrap ((j:Int) - 1)=(j:Int) - 1:=by rw[IntKind.wrap_i64];omega
   have z1:(j:Int) < n:=by omega
   clear m s v;gi_wp2;refine⟨rfl,F.mono ?_⟩;rintro M N ⟨u,⟨rfl,g⟩ | ⟨rfl,g⟩⟩
   ·gi_wp2;go_roundw
    case rel=>exact⟨i+1,by omega,by have:=G.out;congr 1;omega,Nat.le_trans d u.size,g⟩
    case measure=>simp[intOf]
   gi_wp2;refine bodyPost_ret (results_none rfl _ _ _) rfl ?_
   exact⟨⟨_,rfl⟩,Nat.le_trans d u.size,.inr ⟨i,q,g⟩⟩
  have t:i=n:=by omega
  have s:(n:Int) - 1 - (i:Int)=-1:=by omega
  rw[s]
  have C:Hid (J n wr):=by show J n wr;rw[<- t];exact f
  clear m s t f;gi_wp2;go_end0;exact⟨⟨_,rfl⟩,d,.inl C.out⟩
theorem BN:Calls Tryz.prog 306 #[.slice ao n c] w λe w'=>e=.returned (.func (.func 351) #[] #[.pointer (some ⟨w.heap.size,0,none⟩)])/\Blk w' w.heap.size [.slice ao n c] 29/\BW w w':=by
 go_enter Tryz.func306,Tryz.ntmps306;go_wp2;go_ret;exact⟨rfl,ay w _ _,aa w _⟩
def nxt(l:List Int):List Int:=match l.reverse.dropWhile (· == 255) with
 | []=>[]
 | x :: t=>t.reverse ++ [x+1]
theorem Dz:∀ {l:List Int},(∀ x∈l,x=255)->l.dropWhile (· == 255)=[]
 | [],_=>rfl
 | x :: l,h=>by
  have hx:=h x List.mem_cons_self;subst hx;rw[List.dropWhile_cons_of_pos (by decide)];exact Dz (λy hy=>h y (List.mem_cons_of_mem _ hy))
theorem zU(A B:List Int)(hx:x≠255)(h:∀ b∈B,b=255):(A ++ x :: B).reverse.dropWhile (· == 255)=x :: A.reverse:=by
 rw[List.reverse_append,List.reverse_cons,List.append_assoc,List.dropWhile_append_of_pos (λa c=>by simp[h a (List.mem_reverse.1 c)]),List.singleton_append,List.dropWhile_cons_of_neg (by simp[hx])]
theorem mn(h:∀ x∈l,x=255):nxt l=[]:=by
 have:l.reverse.dropWhile (· == 255)=[]:=by
  exact Dz (λx hx=>h x (List.mem_reverse.1 hx))
 unfold nxt;rw[this]
theorem nxt_at{j:Nat}(f:l[j]?=some x)(hx:x≠255)(h:∀ i y,l[i]?=some y->j < i->y=255):nxt l=l.take j ++ [x+1]:=by
 have b:j < l.length:=(List.getElem?_eq_some_iff.1 f).1
 have e:l=l.take j ++ x :: l.drop (j+1):=by
  have d:=(List.take_append_drop j l).symm
  have g:l.drop j=x :: l.drop (j+1):=by
   rw[List.drop_eq_getElem_cons b];congr 1
   exact(List.getElem?_eq_some_iff.1 f).2
  rw[g] at d;exact d
 have k:l.reverse.dropWhile (· == 255)=x :: (l.take j).reverse:=by
  have c:=zU (l.take j) (l.drop (j + 1)) hx (λa m=>by
   obtain⟨i,hi⟩:=List.getElem?_of_mem m;rw[List.getElem?_drop] at hi
   exact h (j+1+i) a hi (by omega))
  rw[<- e] at c;exact c
 unfold nxt;rw[k];simp
theorem iO{a c:Nat}{B:World}(h:Below a w A)(hr:Rec c A B)(d:a<=c)(hw:a<=A.heap.size):Below a w B :=
 ⟨hr.os.trans h.os,hr.tape.trans h.tape,hr.output.trans h.output,Nat.le_trans h.size hr.size,λk hk=>by
  obtain⟨o,b⟩:∃ o,A.heap[k]?=some o:=⟨A.heap[k]'(by omega),Array.getElem?_eq_getElem _⟩
  rw[hr.same k o b (.inl (by omega)),<- b]
  exact h.block k hk⟩
theorem CA{ty:TypeId}(h:Blk A g cs ty)(hr:Rec B A A'):Blk A' g cs ty:=hr.blk h
theorem OB.rcd(h:OB A D v l)(hr:Rec B A A'):OB A' D v l:=by
 refine⟨h.oct,h.ex.imp id ?_⟩;rintro⟨b,c,e,hd,hR⟩;obtain⟨cs,k⟩:=hR.kind;exact⟨b,c,e,hd,hR.same ((hr.blk k).blk.trans k.blk.symm)⟩
theorem By.take(h:By w (.slice ao n c) l)(j:Nat)(t:j<=n):By w (.slice ao j c) (l.take j):=by
 obtain⟨s,hc,hm⟩:=By.lens h;obtain⟨p,r,e,q,k,f,g,o⟩:=h.ex
 cases e
 have hlen:(l.take j).length=j:=by rw[List.length_take];omega
 refine⟨ao,c,by rw[hlen],by rw[hlen];omega,k,f,λx hx=>g x (List.mem_of_mem_take hx),?_⟩;rcases o with rfl | ⟨d,m,e,b,a⟩
 ·exact .inl (by simp)
 exact .inr ⟨d,m,e,b,λi x hi=>a i x (by
  rw[List.getElem?_take] at hi;split at hi
  ·exact hi
  cases hi)⟩
theorem G6{o:Nat}(c:w.cell? ⟨g,o,none⟩=some v):(loadVar 29 ⟨g,o,none⟩).run Tryz.prog w=.ok v w:=by go_simp
theorem ET{F:Fence}{Q:Exit->Act->World->Prop}{after:Array Edge}{a:Act}(hF:∀ f,F.fn f)(hu:a.eval (.tmp 14)=u)(hv:a.eval (.tmp 17)=v)(hr:(Builtin.append_ #[29,29] 29 #[u,v]).run Tryz.prog w=.ok r w')(h:wpListIn F n Tryz.prog ops Q rest (a.put (some 18) r) w') :
  wpListIn F n Tryz.prog ops Q ({ dst:=some 18,op:=.call { callee:=.builtin .append,args:=#[.tmp 14,.tmp 17],argTypes:=#[29,29] },type:=29,pos:=pos,after:=after,guard:=none } :: rest) a w :=
 rz rfl hF (Oper.semAt_eq _ _ _ (λc h=>by cases h)) (iH (x:=14) (y:=17) rfl hr (ho:=rfl) (hx:=hu) (hy:=hv)) h
theorem BS(h:By w (.slice ao n c) l)(hbig:n≤1000000000) :
    Calls Tryz.prog 245 #[.slice ao n c] w λe w'=>∃ v,e=.returned v∧OB w' (w.heap.size≤·) v (nxt l)∧BW w w':=by
  obtain⟨hl,hnc,hcm⟩:= By.lens h;have c1:=ay w [.slice ao n c] 29;have b1:=aa w (.cells #[.slice ao n c] 29)
  have s1:(w.alloc (.cells #[.slice ao n c] 29)).heap.size=w.heap.size+1:=by simp
  have c2:=ay (w.alloc (.cells #[.slice ao n c] 29)) [.slice none 0 0] 29;have b2:=aa (w.alloc (.cells #[.slice ao n c] 29)) (.cells #[.slice none 0 0] 29)
  have s2:((w.alloc (.cells #[.slice ao n c] 29)).alloc (.cells #[.slice none 0 0] 29)).heap.size=w.heap.size+2:=by simp
  rw[s1] at c2
  have R:=c1.keep b2;have W:=ae b1 b2;obtain⟨Wa,J⟩:∃ Wa,Hid ((w.alloc (.cells #[.slice ao n c] 29)).alloc (.cells #[.slice none 0 0] 29)=Wa):=⟨_,rfl⟩;rw[J.out] at R c2 s2 W;have HB:=aG h;clear h c1 b1 b2 s1;refine(callsIn_wide (n:=0)).1 ?_
  refine callsIn_of_wp_marks Tryz.func245 rfl trivial ?_ rfl;simp only[Tryz.ntmps245,List.size_toArray,List.length_cons,List.length_nil,Nat.reduceAdd,Nat.reduceSub,Array.replicate_succ,Array.replicate_zero,List.push_toArray,List.append_toArray,List.nil_append,List.cons_append];gi_wp2_with (refine⟨trivial,rfl,?_⟩;gi_at_call 306;rw[J.out];refine(callsIn_wide.2 BN).mono ?_;rintro e' G ⟨rfl,O,t⟩);rw[s2] at O;have k1:=R.keep t;have k2:=c2.keep t;have q:=ae W t;have hs2:=t.size;have IT:=xW (Tp:=λ_=>False) (bs:=w.heap.size+2) (c:=c) (ao:=ao) (Q:=l) (n:=n) (Rd:=λV=>BW G V) hl hbig (λV hv=>⟨(O.keep hv).cell (i:=0) rfl,λj p C=>By.at ((HB.out.keep q).keep hv) C⟩);refine kL IT (by rfl) (enters_of Tryz.func351 (by kernel_rfl) rfl) (λi args n V V' h _=>h) (λi args n V h=>by obtain⟨p,j,_,_,rfl⟩:= h;rfl)
    (λi V=>BW G V∧∀ j x,l[j]?=some x→n≤j+i→x=255)
    (λc i V=>c=.ret∧∃ v,Blk V (w.heap.size+1) [v] 29∧OB V (w.heap.size≤·) v (nxt l)∧BW w V)
    (λi A B hx T=>⟨iO hx.1 T (Nat.le_refl _) hx.1.size,hx.2⟩)
    (λc i A B hx T=>⟨hx.1,by obtain⟨v,h1,h2,I⟩:= hx.2;exact⟨v,T.blk h1,OB.rcd h2 T,iO I T q.size I.size⟩⟩)
    (λi V hv=>hv.1) ⟨Below.refl _ _,λj x C hn=>by have:=(List.getElem?_eq_some_iff.1 C).1;omega⟩ ?_ ?_ ?_
  · rintro l2 i args V Wv hl2 hlV hrec hiN ⟨hBV,m⟩ hb ⟨p,j,C,hp,rfl⟩
    simp;gi_wp2;refine⟨Below.refl _ _,?_⟩;intro V2 W2 u f hb2 L K hsz3 hV2 r hrec2;have d:=u.trans (hb2.mono u.size);have kb:=(k1.keep d).cell (i:=0) rfl;have F:=k2.keep d
    have hpo:0≤p∧p < 256:=HB.out.oct p (List.mem_of_getElem? hp);clear m hb hBV K L;by_cases S:p=255
    · subst S
      gi_wp2;refine⟨bM.of (Below.refl _ _),d,λj2 x hx hn=>?_⟩;by_cases e:j2=j
      · subst e;rw[hp] at hx;cases hx;rfl
      · exact f j2 x hx (by omega)
    · have hp6 : p < 255 := by omega
      have BY:=By.take ((HB.out.keep q).keep d) j (by omega)
      have H:(l.take j).length=j:=by rw[List.length_take];omega
      have hjn:(j:Int)≤c:=by omega
      have w9:IntKind.u8.wrap (p+1)=p+1:=by rw[IntKind.wrap_u8];omega
      have P:=aG F;have HW:=aG d
      have HNX:Hid (nxt l=l.take j ++ [p+1]):=nxt_at hp S (λi2 y hy hi=>f i2 y hy (by omega));clear F d f
      gi_wp2_with (first
        | (have gate:=s;clear gate;refine ET (λ_=>trivial) rfl rfl s ?_;clear s)
        | (refine⟨trivial,rfl,?_⟩;gi_at_call 104;refine(CallsIn.inRound l2 (callsIn_wide.2 (cW BY (by omega)))).mono ?_;rintro e' w5 ⟨v5,rfl,O5,b5⟩;obtain⟨v6,E,s,O6,b6⟩:= eU (B:=W2.heap.size) (x:=p+1) O5 b5.size (by omega) (by omega);have z:=(P.out.keep b5).nA b6 (P.out.lt);have kc:=z.cell (i:=0) rfl;have kfr:=z.free 0;obtain⟨a5,c5,rfl⟩:= OB.sh O5;obtain⟨a6,c6,rfl⟩:= OB.sh O6;rw[H] at s ⊢))
      have hlt:w.heap.size+1 < G.heap.size:=k2.lt;have hsW:=HW.out.size;have N:=b5.trans b6
      have O7:OB E (W2.heap.size≤·) (.slice a6 (j+1) c6) (l.take j ++ [p+1]):=by
        have U:=O6;rw[show (l.take j ++ [p+1]).length=j+1 by rw[List.length_append,H];rfl] at U;exact U
      have O8:OB (E.setCell ⟨w.heap.size+1,0,none⟩ (.slice a6 (j+1) c6)) (W2.heap.size≤·) (.slice a6 (j+1) c6) (l.take j ++ [p+1]):=O7.same (λb _ hb=>Below.heap_setCell E _ _ b (by show b≠w.heap.size+1;omega))
      have B6:BW w E:=(q.trans (HW.out.mono q.size)).trans (N.mono (Nat.le_trans q.size hsW));refine⟨(bM.of N).trans ⟨?_,λk o hk h0 _=>(Below.heap_setCell E _ _ k (by show k≠w.heap.size+1;omega)).trans h0⟩,rfl,_,z.setCell (i:=0) _,?_,B6.setCell (show w.heap.size≤w.heap.size+1 by omega) _⟩
      · exact((Chg.refl (λx=>x=w.heap.size+1) E).cell (g:=w.heap.size+1) (i:=0) (.inl rfl) _).size
      · rw[HNX.out]
        exact O8.mono (λb _ hb=>by have:=q.size;omega)
  · rintro Z X hD Y ⟨d,m⟩
    have F:=k2.keep d;have kc:=F.cell (i:=0) rfl;have kf:=F.free 0
    have hlt:w.heap.size+1 < G.heap.size:=k2.lt
    have M:(X.setCell ⟨w.heap.size+1,0,none⟩ (.slice none 0 0)).heap[Z]?=some (.deferred (some [])):=(Below.heap_setCell X _ _ Z (by show Z≠w.heap.size+1;omega)).trans Y;gi_wp2;refine⟨by simp,.inl ⟨_,_,rfl,run_takeDeferred M,?_⟩⟩;have D:=Rec.put (B:=G.heap.size) M rfl hD (.deferred none);have k3:=CA (F.setCell (i:=0) (.slice none 0 0)) D;refine⟨_,lF rfl rfl (G6 (k3.cell (i:=0) rfl)),_,rfl,?_,?_⟩
    · rw[mn (λx hx => by
        obtain⟨j,C⟩:= List.getElem?_of_mem hx
        exact m j x C (by omega))]
      exact vi _ _
    · have U:BW w (X.setCell ⟨w.heap.size+1,0,none⟩ (.slice none 0 0)):=(q.trans (d.mono q.size)).setCell (show w.heap.size≤w.heap.size+1 by omega) _
      exact iO U D q.size U.size
  · rintro Z c i X hD Y hiN ⟨rfl,v,h1,h2,I⟩
    gi_wp2;refine⟨by simp,.inl ⟨_,_,rfl,run_takeDeferred Y,?_⟩⟩;have D:=Rec.put (B:=G.heap.size) Y rfl hD (.deferred none);have k3:=CA h1 D;exact⟨_,lF rfl rfl (G6 (k3.cell (i:=0) rfl)),_,rfl,OB.rcd h2 D,iO I D q.size I.size⟩
theorem eM:Lt (x :: a) (y :: b)<->x < y\/(x=y/\Lt a b):=by
 unfold Lt;rw[dm];by_cases c:x < y
 ·simp[c]
 by_cases d:y < x
 ·rw[if_neg c,if_pos d];constructor
  ·intro h;exact absurd h (by decide)
  rintro(h | ⟨h,_⟩)<;>omega
 rw[if_neg c,if_neg d];have:x=y:=by omega
 simp[this]
theorem il:Lt [] (y :: b):=by simp[Lt,dm]
theorem not_lt_nil:¬ Lt a []:=by cases a<;>simp[Lt,dm]
theorem A9(s:List Int):Lt (s ++ a) (s ++ b)<->Lt a b:=by
 induction s with
 | nil=>exact Iff.rfl
 | cons x s ih=>rw[List.cons_append,List.cons_append,eM,ih];simp
theorem jM:∀ l:List Int,(∀ x∈l,x=255)\/∃ A x B,l=A ++ x :: B/\x≠255/\∀ b∈B,b=255
 | []=>.inl (λ_ h=>by simp at h)
 | y :: t=>by
  rcases jM t with h | ⟨A,x,B,rfl,hx,hB⟩
  ·by_cases hy:y=255
   ·exact .inl (λx hx=>by
     rcases List.mem_cons.1 hx with rfl | hx
     ·exact hy
     exact h x hx)
   exact .inr ⟨[],y,t,rfl,hy,h⟩
  exact .inr ⟨y :: A,x,B,rfl,hx,hB⟩
theorem pN{A B:List Int}(hx:x≠255)(hB:∀ b∈B,b=255):nxt (A ++ x :: B)=A ++ [x+1]:=by
 unfold nxt;rw[zU A B hx hB];simp
theorem E5(h:nxt l=[]):∀ x∈l,x=255:=by
 rcases jM l with h1 | ⟨A,x,B,rfl,hx,hB⟩
 ·exact h1
 rw[pN hx hB] at h;simp at h
theorem vz{c:List Int}(h:nxt l≠[])(hc:l <+: c):Lt c (nxt l):=by
 rcases jM l with a | ⟨A,x,B,rfl,hx,b⟩
 ·exact absurd (mn a) h
 obtain⟨t,rfl⟩:=hc;rw[pN hx b,List.append_assoc,A9,List.cons_append,eM];exact .inl (by omega)
theorem uX:∀ {B t:List Int},(∀ b∈B,b=255)->Oct t->Lt t B\/B <+: t
 | [],_,_,_=>.inr (List.nil_prefix)
 | b :: B,[],_,_=>.inl il
 | b :: B,z :: t,hB,ht=>by
  have hb:=hB b List.mem_cons_self;have c:=ht z List.mem_cons_self;subst hb;by_cases h:z=255
  ·subst h;rcases uX (λb hb=>hB b (List.mem_cons_of_mem _ hb)) (λy hy=>ht y (List.mem_cons_of_mem _ hy)) with a | a
   ·exact .inl (eM.2 (.inr ⟨rfl,a⟩))
   exact .inr (List.cons_prefix_cons.2 ⟨rfl,a⟩)
  exact .inl (eM.2 (.inl (by omega)))
theorem oW:∀ {A B c:List Int} {x:Int},(∀ b∈B,b=255)->Oct c->Lt c (A ++ [x+1])->Lt c (A ++ x :: B)\/(A ++ x :: B) <+: c
 | [],B,[],x,_,_,_=>.inl il
 | [],B,y :: t,x,hB,hc,h=>by
  rw[List.nil_append,eM] at h;rw[List.nil_append];rcases h with h | ⟨_,h⟩
  ·by_cases e:y=x
   ·subst e;rcases uX hB (λz hz=>hc z (List.mem_cons_of_mem _ hz)) with h1 | h1
    ·exact .inl (eM.2 (.inr ⟨rfl,h1⟩))
    exact .inr (List.cons_prefix_cons.2 ⟨rfl,h1⟩)
   exact .inl (eM.2 (.inl (by omega)))
  exact absurd h not_lt_nil
 | a :: A,B,[],x,_,_,_=>.inl il
 | a :: A,B,y :: t,x,hB,hc,h=>by
  rw[List.cons_append,eM] at h;rw[List.cons_append];rcases h with h | ⟨h1,h2⟩
  ·exact .inl (eM.2 (.inl h))
  subst h1;rcases oW hB (λz hz=>hc z (List.mem_cons_of_mem _ hz)) h2 with h3 | h3
  ·exact .inl (eM.2 (.inr ⟨rfl,h3⟩))
  exact .inr (List.cons_prefix_cons.2 ⟨rfl,h3⟩)
theorem vJ{c:List Int}(hc:Oct c)(h1:¬ l <+: c)(d:¬ Lt c l):¬ Lt c (nxt l):=by
 rcases jM l with e | ⟨A,x,B,rfl,hx,b⟩
 ·rw[mn e];exact not_lt_nil
 rw[pN hx b];intro h;rcases oW b hc h with a | a
 ·exact d a
 exact h1 a
end
section
variable {w:World}{pg:Option Addr}{lb:Array Value}{K D:Nat->Prop}{W:List aD}{p:List Int}
theorem uY{k:Nat}:Calls Tryz.prog 243 #[.pointer pg,.func (.func k) #[] lb] w λe w'=>e=.returned (.func (.func 303) #[] #[.pointer (some ⟨w.heap.size,0,none⟩),.pointer (some ⟨w.heap.size + 1,0,none⟩)])/\Blk w' w.heap.size [.pointer pg] 46/\Blk w' (w.heap.size + 1) [.func (.func k) #[] lb] 291/\BW w w':=by
 have b1:=aa w (.cells #[.pointer pg] 46);have c1:=ay w [.pointer pg] 46;have b:=aa (w.alloc (.cells #[.pointer pg] 46)) (.cells #[.func (.func k) #[] lb] 291);have c2:=ay (w.alloc (.cells #[.pointer pg] 46)) [.func (.func k) #[] lb] 291
 have s1:(w.alloc (.cells #[.pointer pg] 46)).heap.size=w.heap.size+1:=by simp
 rw[s1] at c2;go_enter Tryz.func243,Tryz.ntmps243;go_wp2;go_ret;exact⟨rfl,c1.keep b,c2,ae b1 b⟩
theorem SA.oct{g n N:Nat}{E:aD}(h:SA w K D g E W n N):∀ x∈E,Oct x.1:=by
 obtain⟨F,V,m,Q,d,T,i,hX,rfl,f⟩:=h.open;obtain⟨L,rfl,A,O,S,k,r⟩:=hX.map.ex;intro x hx;rw[dj] at hx;obtain⟨e,he,rfl⟩:=List.mem_map.1 hx;obtain⟨es,b,a⟩:=List.mem_flatten.1 he;obtain⟨p,c,rfl⟩:=List.mem_map.1 b;exact((A.cM p c).1.fa e a).k.oct
theorem uf{k:List Int}(h:p <+: k):¬ Lt k p:=by
 obtain⟨t,rfl⟩:=h;intro h;have:Lt (p ++ t) (p ++ []):=by simpa using h
 rw[A9] at this;exact not_lt_nil this
theorem Ai{x:KV}(hx:Oct x.1):Ab p (nxt p) x=decide (p <+: x.1):=by
 unfold Ab;by_cases h:p <+: x.1
 ·have a:=uf h;by_cases hn:nxt p=[]
  ·simp[h,a,hn]
  simp[h,a];exact .inr (vz hn h)
 by_cases a:Lt x.1 p
 ·simp[h,a]
 have hn:nxt p≠[]:=λe=>by
  rcases uX (E5 e) hx with b | b
  ·exact a b
  exact h b
 simp[h,a,hn,vJ hx h a]
end
end Kv
end
section
namespace Kv
open Go.RowKit Go.Lib Pg
section
variable {w:World}{K D:Nat->Prop}{v:Value}{l:List Int}{W:List aD}
structure ByU(w:World)(v:Value)(l:List Int):Prop where
 byt:By w v l
 u8:∀ b o n c,v=.slice (some ⟨b,o,none⟩) n c->∃ cs m,w.heap[b]?=some (.cells cs 5 m)
theorem ByU.chg{w':World}(h:ByU w v l)(hc:Chg K w w')(hk:∀ b,K b->∃ cs t,Blk w b cs t/\t≠5):ByU w' v l:=by
 have g:∀ b o n c,v=.slice (some ⟨b,o,none⟩) n c->w'.heap[b]? = w.heap[b]? := λb o n c e=>by
  obtain⟨cs,m,hb⟩:=h.u8 b o n c e;refine hc.same b (lt_of_block hb) λs=>?_
  obtain⟨A,t,j,p⟩:=hk b s;have:=j.blk.symm.trans hb;simp at this;exact p this.2.1
 refine⟨?_,λb o n c e=>by rw[g b o n c e];exact h.u8 b o n c e⟩;obtain⟨q,c,f,k,y,r,u,z⟩:=h.byt.ex;refine⟨q,c,f,k,y,r,u,z.imp id ?_⟩;rintro⟨b,o,rfl,d,a⟩;exact⟨b,o,rfl,Nat.lt_of_lt_of_le d hc.size,λi x hi=>by rw[World.cell?_of_block (w:=w) (g b o _ _ f)];exact a i x hi⟩
theorem ByU.of(h:OB w D v l):ByU w v l:=by
 refine⟨h.by,λb o n c e=>?_⟩;rcases h.ex with⟨rfl,_⟩ | ⟨b',c',rfl,_,hR⟩
 ·cases e
 cases e;obtain⟨cs,k⟩:=hR.kind;exact⟨_,_,k.blk⟩
theorem SA.kind{g n N:Nat}{E:aD}(h:SA w K D g E W n N):∀ b,K b->∃ cs t,Blk w b cs t/\t≠5:=by
 obtain⟨F,V,m,Q,jv,T,oj,_,_,_,_,_,_,_,O⟩:=h.ex;exact O.kind
end
end Kv
end
end Go.Proofs.YtpoifdokmjhclaaGreat
