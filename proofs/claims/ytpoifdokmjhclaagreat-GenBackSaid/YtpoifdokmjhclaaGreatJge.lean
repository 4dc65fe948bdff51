import Derived.Test.YtpoifdokmjhclaaGreatJgd
set_option maxRecDepth 100000
set_option maxHeartbeats 8000000
namespace Go.Proofs.YtpoifdokmjhclaaGreat
section
namespace Kv
open Go.RowKit Go.Lib Pg
attribute [local go_sem] Oper.semAt_some
section
variable {E:aA}{k:List Int}{w:World}{K D F V:Nat->Prop}{g n N m:Nat}{W:List aA}{kv jv:Value}{Q:List (List KV)}{T T0:List Jr}{oj:Option Nat}
theorem yL(h:nM E)(hn:(look E k).isSome=false):rem E k=E:=by
 obtain⟨X,Y,c,⟨rfl,e⟩ | ⟨x,rfl,e⟩⟩:=h.cut k
 ·exact c.CT
 ·rw[e] at hn;cases hn
theorem kE(h:SA w K D g E W n N) :
  Calls Tryz.prog 158 #[.pointer (some ⟨g,0,none⟩)] w fun e w'=>e=.returned (.int .i64 W.length)/\w'=w:=by
 obtain⟨F,V,m,Q,d,T,f,hX,c,b⟩:=h.open;have a:=b.len;simp at a;rw[<- a];exact pH hX
theorem sget(h:SA w K D g E W n N)(hk:BK w K kv k)(hn:n<=4000000000000000000)(C:N<=100000000) :
  Calls Tryz.prog 39 #[.pointer (some ⟨g,0,none⟩),kv] w fun e w'=>∃ v,e=.returned (.tuple #[v,.bool (look E k).isSome])/\OB w' (w.heap.size <= ·) v ((look E k).getD [])/\SA w' K D g E W (n+1) N/\Chg K w w':=by
 obtain⟨F,V,m,Q,y,T,G,hX,rfl,s⟩:=h.open;obtain⟨x,c,rfl⟩:=hk.shape;have u:=fJ hX hn;have t:=ax hX;have A:=ax s;have q:=ax hk;clear hX s hk h;obtain⟨kn,d⟩:∃ kn,Hid (k.length=kn):=⟨_,rfl⟩
 rw[d.out] at q ⊢;have o:=fun w' (X:SX w' K D F V g m Q y T G (n+1) N) (hk:By w' (.slice x kn c) k)=>mn X hk C
 obtain⟨r,p⟩:∃ r,(look Q.flatten k).isSome=r:=⟨_,rfl⟩
 obtain⟨L,l⟩:∃ L,(look Q.flatten k).getD []=L:=⟨_,rfl⟩
 rw[p,l] at o ⊢;clear p l;go_enter Tryz.func39,Tryz.ntmps39;go_wp2_with first
  | (go_at_call 70;go_must (refine u.mono ?_);rintro e z ⟨rfl,f,j⟩;have c0:=f.blk.cell (i:=0) rfl)
  | (go_at_call 71;go_must (refine(o _ f (q.out _ (t.out.kg j))).mono ?_);rintro e J ⟨v,rfl,O,B⟩;obtain⟨a1,c1,rfl⟩:∃ a1 c1,v=.slice a1 L.length c1:=(by obtain⟨a1,c1,e,_⟩:=O.by.ex;exact⟨a1,c1,e⟩);generalize L.length=I at *)
 go_ret2;exact⟨_,rfl,O.mono (fun b _ h=>by have:=j.size;have H:z.heap.size<=b:=h;show w.heap.size<=b;omega),(f.keep B).shut rfl A.out,eX (t.out.kg j) (Chg.of B)⟩
theorem shas(h:SA w K D g E W n N)(hk:BK w K kv k)(hn:n<=4000000000000000000)(v:N<=100000000) :
  Calls Tryz.prog 94 #[.pointer (some ⟨g,0,none⟩),kv] w fun e w'=>e=.returned (.bool (look E k).isSome)/\SA w' K D g E W (n+1) N/\Chg K w w':=by
 obtain⟨F,V,m,Q,s,T,x,hX,rfl,o⟩:=h.open;obtain⟨q,c,rfl⟩:=hk.shape;have u:=fJ hX hn;have p:=ax hX;have t:=ax o;have l:=ax hk;clear hX o hk h;obtain⟨kn,b⟩:∃ kn,Hid (k.length=kn):=⟨_,rfl⟩
 rw[b.out] at l ⊢;have d:=fun w' (X:SX w' K D F V g m Q s T x (n+1) N) (hk:By w' (.slice q kn c) k)=>qg X hk v
 obtain⟨r,i⟩:∃ r,(look Q.flatten k).isSome=r:=⟨_,rfl⟩
 rw[i] at d ⊢;clear i;go_enter Tryz.func94,Tryz.ntmps94;go_wp2_with first
  | (go_at_call 70;go_must (refine u.mono ?_);rintro e y ⟨rfl,f,j⟩)
  | (go_at_call 138;go_must (refine(d _ f (l.out _ (p.out.kg j))).mono ?_);rintro e z ⟨rfl,B⟩)
 go_ret;exact⟨rfl,(f.keep B).shut rfl t.out,eX (p.out.kg j) (Chg.of B)⟩
theorem Ei(hX:SX w K D F V g m Q jv T oj n N)(p:gh (T.reverse.map Jr.U) W Q.flatten)(hk:BK w K kv k)(hn:n<=4000000000000000000)(r:N+2<=100000000)(hr:(look Q.flatten k).isSome=false) :
  Calls Tryz.prog 131 #[.pointer (some ⟨g,0,none⟩),kv] w (Ends w K D g (rem Q.flatten k) W (n+1) (N+2) (.bool false)):=by
 obtain⟨y,c,rfl⟩:=hk.shape;have u:=fJ hX hn;have j:=ax hX;have t:=ax p;have o:=ax hk
 have s:N<=99999998:=by omega
 replace r:N<=100000000:=by omega
 clear hX p hk;obtain⟨kn,f⟩:∃ kn,Hid (k.length=kn):=⟨_,rfl⟩
 rw[f.out] at o ⊢;go_enter Tryz.func131,Tryz.ntmps131;go_wp2_with first
  | (go_at_call 70;go_must (refine u.mono ?_);rintro e x ⟨rfl,d,l⟩;have i:=qg d (o.out _ (j.out.kg l)) r;rw[hr] at i)
  | (go_at_call 138;go_must (refine i.mono ?_);rintro e z ⟨rfl,q⟩;clear i;replace d:=d.keep q;have v:=eX (j.out.kg l) (Chg.of q))
 go_ret;have e:=yL j.out.map.ord.flat hr;exact⟨rfl,K,((d.shut e.symm (by rw[e];exact t.out)).more (by omega)).mono (fun _ _ h=>.inl h),fun b h=>.inl h,v⟩
theorem zd(hX:SX w K D F V g m Q jv [] oj n N)(t:gh ([].reverse.map Jr.U) W Q.flatten)(hk:BK w K kv k)(hn:n<=4000000000000000000)(v:N+2<=100000000)(hr:(look Q.flatten k).isSome=true) :
  Calls Tryz.prog 131 #[.pointer (some ⟨g,0,none⟩),kv] w (Ends w K D g (rem Q.flatten k) W (n+1) (N+2) (.bool true)):=by
 obtain⟨H,c,rfl⟩:=hk.shape;have u:=fJ hX hn;have x:=ax hX;have B:=ax t;have l:=ax hk
 have A:N<=99999998:=by omega
 replace v:N<=100000000:=by omega
 clear hX t hk;obtain⟨kn,f⟩:∃ kn,Hid (k.length=kn):=⟨_,rfl⟩
 rw[f.out] at l ⊢;go_enter Tryz.func131,Tryz.ntmps131;go_wp2_with first
  | (go_at_call 70;go_must (refine u.mono ?_);rintro e I ⟨rfl,d,s⟩;have j:=qg d (l.out _ (x.out.kg s)) v;rw[hr] at j)
  | (go_at_call 138;go_must (refine j.mono ?_);rintro e L ⟨rfl,p⟩;clear j;replace d:=d.keep p;have o:=eX (x.out.kg s) (Chg.of p))
  | (go_at_call 125;go_must (refine(lY d).mono ?_);rintro e y ⟨rfl,hy⟩;replace hy:=hy.symm;subst hy;have c0:=d.blk.cell (i:=0) rfl;have us:=mdel d.map (l.out _ o) (by omega);rw[jK d.map.ord,hr] at us)
  | (go_at_call 171;go_must (refine us.mono ?_);rintro e G ⟨rfl,J,z,hF,q⟩)
 go_ret;have C:=d.mapped (N':=N) (by have:=d.tot;have:=lR (E:=Q.flatten) k;rw[fj d.map.ord];omega) z hF (fun _ h=>h) q;refine⟨rfl,_,((C.shut (E:=rem Q.flatten k) (W:=W) (fj d.map.ord k) (mE B.out)).more (by omega)).mono (fun b _ hb=>?_),fun b hb=>?_,?_⟩
 ·exact .inl hb
 ·rcases hb with⟨hb,_⟩ | hb
  ·exact .inl hb
  ·rcases hF b hb with r | r
   ·exact .inl (d.own.map b r)
   ·exact .inr (by have:=o.size;omega)
 ·exact eX o (q.mono (fun b _ h=>d.own.map b h))
theorem Bf{j:Jr}(hX:SX w K D F V g m Q jv (T0 ++ [j]) oj n N)(G:gh ((T0 ++ [j]).reverse.map Jr.U) W Q.flatten)(hk:BK w K kv k)(hn:n<=4000000000000000000)(x:N+2<=100000000)(f:k.length<=1000000000)(hr:(look Q.flatten k).isSome=true) :
  Calls Tryz.prog 131 #[.pointer (some ⟨g,0,none⟩),kv] w (Ends w K D g (rem Q.flatten k) W (n+1) (N+2) (.bool true)):=by
 obtain⟨S,c,rfl⟩:=hk.shape;have u:=fJ hX hn;have y:=ax hX;have L:=ax G;have q:=ax hk;replace f:=ax f
 have J:N<=99999998:=by omega
 replace x:N<=100000000:=by omega
 clear hX G hk;obtain⟨kn,r⟩:∃ kn,Hid (k.length=kn):=⟨_,rfl⟩
 rw[r.out] at q ⊢;go_enter Tryz.func131,Tryz.ntmps131;go_wp2_with first
  | (go_at_call 70;go_must (refine u.mono ?_);rintro e X ⟨rfl,p,C⟩;have t:=qg p (q.out _ (y.out.kg C)) x;rw[hr] at t)
  | (go_at_call 138;go_must (refine t.mono ?_);rintro e w2 ⟨rfl,z⟩;clear t;replace p:=p.keep z;have o:=eX (y.out.kg C) (Chg.of z))
  | (go_at_call 125;go_must (refine(oM p (q.out _ o) (by have:=f.out;omega) x).mono ?_);rintro e Y ⟨rfl,R,T,P,v,d,l,I⟩;have s:=eX o I;have c0:=d.blk.cell (i:=0) rfl;have us:=mdel d.map (q.out _ s) (by omega);rw[jK d.map.ord,hr] at us)
  | (go_at_call 171;go_must (refine us.mono ?_);rintro e O ⟨rfl,Z,H,hF,A⟩)
 go_ret;have M:=d.mapped (N':=N+1) (by have:=d.tot;have:=lR (E:=Q.flatten) k;rw[fj d.map.ord];omega) H hF (fun _ h=>h) A;refine⟨rfl,_,((M.shut (E:=rem Q.flatten k) (W:=W) (fj d.map.ord k) (oo L.out v (Ag y.out.map.ord.flat k))).more (by omega)).mono (fun b _ hb=>?_),fun b hb=>?_,?_⟩
 ·rcases hb with hb | hb
  ·exact .inl hb
  ·exact .inr (by have:=o.size;omega)
 ·rcases hb with⟨hb,_⟩ | hb
  ·exact(l b hb).imp id (fun h=>by have:=o.size;omega)
  ·rcases hF b hb with B | B
   ·exact(l b (d.own.map b B)).imp id (fun h=>by have:=o.size;omega)
   ·exact .inr (by have:=s.size;omega)
 ·exact s.trans A (fun b hb h=>(l b (d.own.map b h)).elim id (fun h=>by have:=o.size;omega))
theorem sdel(h:SA w K D g E W n N)(hk:BK w K kv k)(b:k.length<=1000000000)(hn:n<=4000000000000000000)(c:N+2<=100000000) :
  Calls Tryz.prog 131 #[.pointer (some ⟨g,0,none⟩),kv] w (Ends w K D g (rem E k) W (n+1) (N+2) (.bool (look E k).isSome)):=by
 obtain⟨F,V,m,Q,d,T,f,hX,rfl,a⟩:=h.open
 cases hr:(look Q.flatten k).isSome with
 | false=>exact Ei hX a hk hn c hr
 | true =>
  rcases List.eq_nil_or_concat T with rfl | ⟨e,j,rfl⟩
  ·exact zd hX a hk hn c hr
  ·rw[List.concat_eq_append] at hX a;exact Bf hX a hk hn c b hr
end
section
variable {w:World}{K D V:Nat->Prop}{g n N:Nat}{Q:List (List KV)}{jv:Value}{T:List Jr}{oj oj':Option Nat}{E:aA}{W:List aA}
theorem SX.rows{w2:World}{K D F V:Nat→Prop}{m:Nat}{jv':Value}{T':List Jr}(h:SX w K D F V g m Q jv T oj n N)(hb:Blk w2 g [.pointer (some ⟨m,0,none⟩),jv',.int .i64 n] 152)(hc:Chg (fun b=>oj=some b∨b=g) w w2)(f:(oj'=none∧jv'=.slice none 0 0∧T'=[])∨∃ b c,oj'=some b∧jv'=.slice (some ⟨b,0,none⟩) T'.length c∧Rw w2 265 1 b T'.length c (T'.map Jr.v))(A:∀ j ∈ T',j ∈ T∨(j.U=[]∧j.v=.slice none 0 0∧j.o=none))(r:(T'.filterMap Jr.o).Nodup)(ho:∀ b,oj'=some b→oj=some b∨w.heap.size≤b)(ht:Kv.tot T' + Q.flatten.length≤N)(B:T'.length≤16) :
    SX w2 (fun b=>(K b∧¬ oj=some b)∨oj'=some b) D F V g m Q jv' T' oj' n N∧∀ j ∈ T,JrA w2 V D g j:=by
  have hx : ∀ b cs t, Blk w b cs t → t ≠ 152 → t ≠ 265 → w2.heap[b]? = w.heap[b]? := fun b cs t k d q => hc.same b k.lt (fun e => by
    rcases e with e | e
    · obtain⟨u,s⟩:= h.jn.kind e
      exact q (k.eq s).2
    · subst e
      exact d (k.eq h.blk).2)
  have x:∀ b,(oj=some b∨b=g)→¬ F b:=fun b e=>e.elim (h.own.mh b) (fun e=>by subst e;exact h.own.kG)
  have l:jm V D w w2:=⟨fun b cs t _ k ht=>hx b cs t k (by rcases ht with e | e <;> subst e <;> decide) (by rcases ht with e | e <;> subst e <;> decide),fun b _ _ k=>by obtain⟨cs,k⟩:= k;exact hx b cs _ k (by decide) (by decide)⟩
  have z:∀ j ∈ T,JrA w2 V D g j:=fun j a=>(h.jn.each j a).stay l (fun b e=>by obtain⟨cs,k⟩:= (h.jn.each j a).kind e;exact hx b cs _ k (by decide) (by decide))
  have y : ∀ b cs t, Blk w b cs t → t ≠ 265 → ¬ oj = some b := fun b cs t k d e => by
    obtain⟨u,s⟩:= h.jn.kind e;exact d (k.eq s).2
  have i:∀ j ∈ T',∀ b,j.o=some b→j ∈ T:=fun j a b e=>(A j a).elim id (fun h=>by rw[h.2.2] at e;cases e)
  refine⟨⟨hb,h.map.same (fun b hF=>hc.same b (h.map.lt hF) (fun e=>x b e hF)) (fun b _ _ k=>by obtain⟨cs,k⟩:= k;exact hx b cs _ k (by decide) (by decide)),⟨f,fun j a=>?_,r⟩,ht,B,?_⟩,z⟩
  · rcases A j a with E | ⟨d, q, C⟩
    · exact z j E
    · exact⟨[],by rw[d];exact eZ.nil _ _ _ _,.inl ⟨C,q,d⟩⟩
  · refine⟨.inl ⟨h.own.top, y g _ _ h.blk (by decide)⟩, fun b hb => .inl ⟨h.own.map b hb, fun e => h.own.mh b e hb⟩, fun b hb => ?_, fun b hb => .inr hb, fun j a b e => ?_, fun b hb => ?_, h.own.kG, h.own.jQ, fun b e => ?_, fun j a b e => h.own.lE j (i j a b e) b e, fun b hv => by
      obtain⟨cs,t,k,ht⟩:= h.own.vk b hv
      exact⟨cs,t,k.same (l.var b cs t hv k ht),ht⟩⟩
    · obtain⟨cs,t,k,ht⟩:= h.own.vk b hb
      exact .inl ⟨h.own.var b hb,y b cs t k (by rcases ht with e | e <;> subst e <;> decide)⟩
    · have p:=i j a b e
      obtain⟨cs,k⟩:= (h.jn.each j p).kind e;exact .inl ⟨h.own.bck j p b e,y b cs _ k (by decide)⟩
    · rcases hb with⟨hK, hn⟩ | hb'
      · by_cases e:b=g
        · subst e;exact⟨_,_,hb,by decide⟩
        · obtain⟨cs,t,k,ht⟩:= h.own.kind b hK
          exact⟨cs,t,k.chg hc (fun e2=>e2.elim hn e),ht⟩
      · rcases f with⟨e, _⟩ | ⟨b', c, e, _, hR⟩
        · rw[hb'] at e;cases e
        · rw[hb'] at e;cases e
          obtain⟨cs,k⟩:= hR.kind;exact⟨cs,_,k,by decide⟩
    · rcases ho b e with d | d
      · exact h.own.mh b d
      · intro hF;have:=h.map.lt hF;omega
theorem C9(h:JnA w V D g jv T oj)(r:T.length<=16){a:Addr}(p:w.cell? (a.add 0)=some (.slice none 0 0)) :
  ∃ jb c' w',(Builtin.append_ #[145,145] 145 #[jv,.slice (some a) 1 1]).run Tryz.prog w=.ok (.slice (some ⟨jb,0,none⟩) (T.length+1) c') w'/\(oj=some jb\/jb=w.heap.size)/\Rw w' 265 1 jb (T.length+1) c' (T.map Jr.v ++ [.slice none 0 0])/\Chg (fun b=>oj=some b) w w':=by
 have d:∀ j u,[Value.slice none 0 0][j]? = some u->w.cell? (a.add j)=some u:=fun j u l=>by
  have:j=0:=by have:=(List.getElem?_eq_some_iff.1 l).1;simp at this;omega
  subst this;simp at l;subst l;exact p
 rcases h.row with⟨e1,e2,e3⟩ | ⟨b,c,e1,e2,hR⟩
 ·subst e3;obtain⟨c',W,i,f,q⟩:=gz (w:=w) KJ 145 a 1 1 [.slice none 0 0] rfl d (by decide) (by decide) (by decide);exact⟨_,c',W,by rw[e2];exact i,.inr rfl,f,Chg.of q⟩
 ·obtain⟨n,c',W,i,m,f,k⟩:=dM KJ 145 hR a 1 1 [.slice none 0 0] rfl d (fun v hv=>by simp at hv;subst hv;rfl) (by omega) (by omega);exact⟨n,c',W,by rw[e2];exact i,m.imp (fun e=>by rw[e1,e]) id,f,k.mono (fun x _ e=>by have o:x=b:=e;rw[e1,o])⟩
theorem ri(h:SA w K D g E W n N)(b:W.length=16) :
  Calls Tryz.prog 133 #[.pointer (some ⟨g,0,none⟩)] w fun e w'=>e=.returned (.int .i64 62)/\w'=w:=by
 have u:=kE h;rw[b] at u;clear h b;go_enter Tryz.func133,Tryz.ntmps133;go_wp2_with (go_at_call 158;go_must (refine u.mono ?_);rintro e y ⟨rfl,hy⟩;replace hy:=hy.symm;subst hy);go_ret;exact⟨rfl,rfl⟩
theorem yf(h:SA w K D g E W n N)(O:¬ W.length=16) :
  Calls Tryz.prog 133 #[.pointer (some ⟨g,0,none⟩)] w (Ends w K D g E (E :: W) n N (.int .i64 0)):=by
 have u:=kE h
 have A:W.length<=16:=h.depth;obtain⟨F,V,m,Q,P,T,L,hX,rfl,I⟩:=h.open
 have p:T.length=W.length:=by have:=I.len;simp at this;exact this
 have al:=aa w (.cells #[.slice none 0 0] 265);have bl:=aj w [.slice none 0 0] 265;have c:=hX.keep al;obtain⟨d,o,v,C,f,H,z⟩:=C9 c.jn c.len (a:=⟨w.heap.size,0,none⟩) (bl.cell (i:=0) rfl)
 have J:¬ L=some g:=fun e=>by
  obtain⟨cs,k⟩:=c.jn.kind e;exact absurd (c.blk.eq k).2 (by decide)
 have t:=c.blk.chg z J;have c1:=hX.blk.cell (i:=1) rfl;have f1:=t.free 1;have s:=t.cell (i:=1) rfl;obtain⟨a1,c2,B⟩:=hX.jn.shape
 have l:Hid (∃ K',SA (v.setCell ⟨g,1,none⟩ (.slice (some ⟨d,0,none⟩) (T.length+1) o)) K' (fun b=>D b\/w.heap.size<=b) g Q.flatten (Q.flatten :: W) n N/\(∀ b,K' b->K b\/w.heap.size<=b)/\Chg K w (v.setCell ⟨g,1,none⟩ (.slice (some ⟨d,0,none⟩) (T.length+1) o))):=by
  have r:Chg (fun b=>L=some b\/b=g) (w.alloc (.cells #[.slice none 0 0] 265)) (v.setCell ⟨g,1,none⟩ (.slice (some ⟨d,0,none⟩) (T.length+1) o)):=(z.mono (fun b _ e=>.inl e)).cell (.inl (.inr rfl)) _
  have G:d≠g:=fun e=>by
   subst e;obtain⟨cs,k⟩:=H.kind;exact absurd (t.eq k).2 (by decide)
  have S:=(c.rows (jv':=.slice (some ⟨d,0,none⟩) (T.length + 1) o) (T':=T ++ [⟨[],.slice none 0 0,none⟩]) (oj':=some d) (t.setCell (i:=1) _) r (.inr ⟨d,o,rfl,by simp,by
   have:=H.same (w':=v.setCell ⟨g,1,none⟩ (.slice (some ⟨d,0,none⟩) (T.length+1) o)) (Below.heap_setCell _ _ _ _ G)
   simpa using this⟩) (fun j M=>by
    rcases List.mem_append.1 M with h | h
    ·exact .inl h
    ·simp at h;subst h;exact .inr ⟨rfl,rfl,rfl⟩) (by rw[lW];simpa using c.jn.apart) (fun b e=>by cases e;exact f.imp id (fun e=>by omega)) (by rw[fW];simpa using c.tot) (by simp;omega)).1
  refine⟨_,(S.shut rfl (W:=Q.flatten :: W) ?_).mono (fun _ _ h=>.inl h),fun b hb=>?_,?_⟩
  ·rw[List.reverse_append];simp only[List.reverse_cons,List.reverse_nil,List.nil_append,List.cons_append,List.map_cons];exact⟨rfl,I⟩
  ·rcases hb with⟨h1,_⟩ | h1
   ·exact .inl h1
   ·cases h1;rcases f with e | e
    ·exact .inl (hX.own.jrn _ e)
    ·exact .inr (by have:=al.size;omega)
  ·exact(Chg.of (F:=K) al).trans r (fun b _ e=>e.elim (hX.own.jrn b) (fun e=>by subst e;exact hX.own.top))
 subst B;rw[p] at c1 s C l
 have x:¬ ((W.length:Int)=16):=by omega
 clear hX c I h H z t f J bl;obtain⟨q,hq⟩:∃ q,W.length=q:=⟨_,rfl⟩
 rw[hq] at u c1 s C l x A;clear hq p O;go_enter Tryz.func133,Tryz.ntmps133;go_wp2_with first
  | (go_at_call 158;go_must (refine u.mono ?_);rintro e y ⟨rfl,hy⟩;replace hy:=hy.symm;subst hy)
  | (at_builtin;refine Lib.wpList_append_run _ rfl _ _ _ _ rfl _ _ rfl rfl _ _ C ?_)
 go_ret;exact⟨rfl,l.out⟩
end
section
variable {tmps:Array Value}{w:World}{g m n N:Nat}{v jv bv:Value}{V D K F:Nat->Prop}{j:Jr}{Q:List (List KV)}{T T0 T1:List Jr}{oj:Option Nat}{W:List aA}{E:aA}
theorem kP{fn:Func}{p:Tmp}{ty:TypeId}(h:fn.results=#[.cell p ty])(hp:tmps.getD p undef=.pointer (some ⟨g,0,none⟩))(b:(loadVar ty ⟨g,0,none⟩).run Tryz.prog w=.ok v w):(results fn tmps).run Tryz.prog w=.ok v w:=by
 have a:tmps[p]?.getD undef=.pointer (some ⟨g,0,none⟩):=by simpa using hp
 simp[results,h,a,asAddr,b]
theorem ld_jn{o:Nat}(c:w.cell? ⟨g,o,none⟩=some v):(loadVar 265 ⟨g,o,none⟩).run Tryz.prog w=.ok (.agg #[v]) w:=by
 go_simp
theorem jS(h:JrA w V D g j):∃ a n c,j.v=.slice a n c:=by
 obtain⟨cs,_,⟨_,e,_⟩ | ⟨b,c,_,e,_⟩⟩:=h
 ·exact⟨_,_,_,e⟩
 ·exact⟨_,_,_,e⟩
theorem SX.same{w':World}(h:SX w K D F V g m Q jv T oj n N)(h1:∀ b,K b->w'.heap[b]?=w.heap[b]?)(a:∀ b,b < w.heap.size->D b->(∃ cs,Blk w b cs 5)->w'.heap[b]?=w.heap[b]?):SX w' K D F V g m Q jv T oj n N :=
 ⟨h.blk.same (h1 g h.own.top),h.map.same (fun b hF=>h1 b (h.own.map b hF)) a,h.jn.stay ⟨fun b _ _ hv _ _=>h1 b (h.own.var b hv),a⟩ (fun b e=>h1 b (h.own.jrn b e)) (fun j c b e=>h1 b (h.own.bck j c b e)),h.tot,h.len,h.own.same h1⟩
theorem xend(h:SX w K D F V g m Q jv (T0 ++ [j]) oj n N) :
  Calls Tryz.prog 177 #[.pointer (some ⟨g,0,none⟩)] w fun e w'=>e=.returned (.agg #[j.v])/\∃ K' jv',SX w' K' D F V g m Q jv' T0 oj n N/\JrA w' V D g j/\(∀ b,K' b->K b\/w.heap.size<=b)/\Chg K w w':=by
 obtain⟨d,c,rfl,rfl,y⟩:=h.jn.last;obtain⟨a1,x,c1,p⟩:=jS (h.jn.each j (by simp))
 have hlen:T0.length<=15:=by have:=h.len;simp at this;omega
 have hle:=y.le;have f:=aa w (.cells #[.slice none 0 0] 265)
 have s0:(w.alloc (.cells #[.slice none 0 0] 265)).heap.size=w.heap.size+1:=by simp
 have R:=(h.blk.keep f).cell (i:=1) rfl;have Z:=(y.keep f).cell (i:=T0.length) (v:=j.v) (by simp);rw[p] at Z;have o:=aa (w.alloc (.cells #[.slice none 0 0] 265)) (.cells #[.slice a1 x c1] 265);have J:=(h.keep f).keep o;have Y:=(y.keep f).keep o;have z0:=(aj w [.slice none 0 0] 265).keep o;have z1:=aj (w.alloc (.cells #[.slice none 0 0] 265)) [.slice a1 x c1] 265;rw[s0] at z1;have S:=J.blk.cell (i:=1) rfl
 have L:=delJ Y (i:=T0.length) (by omega) (fun v hv=>by
  obtain⟨t,M,rfl⟩:=List.mem_map.1 hv;obtain⟨a,n,c,e⟩:=jS (J.jn.each t M)
  rw[e];rfl)
 rw[show T0.length+1 - 1=T0.length by omega] at L
 have jlt:d < w.heap.size:=y.lt
 have glt:g < w.heap.size:=h.blk.lt
 have B:g≠d:=fun e=>by
  subst e;obtain⟨cs,k⟩:=y.kind;exact absurd (h.blk.eq k).2 (by decide)
 have l:=ax J;have W:=ax z0;have X:=ax z1;have T:=ax (ae f o);have z:=ax h;have HJV:=ax p;rw[p];clear J Y z0 z1 h y o p hle
 have hq:(T0.length:Int)<=15:=by omega
 obtain⟨q,r⟩:∃ q,Hid (T0.length=q):=⟨_,rfl⟩
 rw[r.out] at R Z S L hq;clear hlen;go_enter Tryz.func177,Tryz.ntmps177;go_wp2_with (go_at_call 218;go_must (refine L.mono ?_);rintro e s ⟨rfl,O,u⟩;have H:=l.out.blk.chg u B;have z0:=W.out.chg u (by omega);have z1:=X.out.chg u (by omega);have d1:=H.cell (i:=1) rfl;have d2:=H.free 1;have d3:=z0.cell (i:=0) rfl;have d4:=z0.free 0;have d5:=z1.cell (i:=0) rfl;replace H:=ax H;replace z0:=ax z0;replace z1:=ax z1;replace O:=ax O;replace u:=ax u)
 have A:w.heap.size≠g:=by omega
 have b4:=(z0.out.off A (i:=1) (.slice (some ⟨d,0,none⟩) q c)).setCell (i:=0) (.slice a1 x c1);refine bodyPost_ret (kP rfl rfl (ld_jn (b4.cell (i:=0) rfl))) rfl ?_
 refine⟨rfl,?_⟩
 have I:Chg (fun b=>some d=some b\/b=g) ((w.alloc (.cells #[.slice none 0 0] 265)).alloc (.cells #[.slice a1 x c1] 265)) (s.setCell ⟨g,1,none⟩ (.slice (some ⟨d,0,none⟩) q c)):=(u.out.mono (fun b _ e=>.inl (by have e':b=d:=e;rw[e']))).cell (.inl (.inr rfl)) _;have G:=O.out.same (w':=s.setCell ⟨g,1,none⟩ (.slice (some ⟨d,0,none⟩) q c)) (Below.heap_setCell _ _ _ _ (fun e=>B e.symm));have E:=l.out.jn.apart;rw[lW,iV] at E
 obtain⟨S4,J4⟩:=l.out.rows (jv':=.slice (some ⟨d,0,none⟩) q c) (T':=T0) (oj':=some d) (H.out.setCell (i:=1) _) I (.inr ⟨d,c,rfl,by rw[r.out],by
  rw[r.out]
  have e:(List.map Jr.v (T0 ++ [j])).take (q * 1) ++ (List.map Jr.v (T0 ++ [j])).drop ((q+1) * 1)=T0.map Jr.v:=by
   rw[Nat.mul_one,Nat.mul_one,<- r.out,List.map_append,List.take_left' (by simp),List.drop_of_length_le (by simp),List.append_nil]
  rw[e] at G
  exact G⟩) (fun t M=>.inl (List.mem_append_left _ M)) E.1 (fun b e=>.inl e) (by have:=l.out.tot;rw[fW] at this;omega) (by have:=l.out.len;simp at this;omega)
 have hx:∀ b,b≠w.heap.size->((s.setCell ⟨g,1,none⟩ (.slice (some ⟨d,0,none⟩) q c)).setCell ⟨w.heap.size,0,none⟩ (.slice a1 x c1)).heap[b]?=(s.setCell ⟨g,1,none⟩ (.slice (some ⟨d,0,none⟩) q c)).heap[b]?:=fun b hb=>Below.heap_setCell _ _ _ _ hb
 have bx:=z0.out.off A (i:=1) (.slice (some ⟨d,0,none⟩) q c)
 have hu:∀ b,(∃ cs,Blk (s.setCell ⟨g,1,none⟩ (.slice (some ⟨d,0,none⟩) q c)) b cs 5)->b≠w.heap.size:=fun b hk e=>by
  obtain⟨cs,k⟩:=hk;subst e;exact absurd (bx.eq k).2 (by decide)
 have U:∀ b,K b->b < w.heap.size:=fun b hb=>by obtain⟨cs,t,k,_⟩:=z.out.own.kind b hb;exact k.lt
 have C:∀ b,((K b/\¬ some d=some b)\/some d=some b)->K b:=fun b hb=>by
  rcases hb with⟨h1,_⟩ | h1
  ·exact h1
  ·cases h1;exact z.out.own.jrn _ rfl
 have P:jm V D (s.setCell ⟨g,1,none⟩ (.slice (some ⟨d,0,none⟩) q c)) ((s.setCell ⟨g,1,none⟩ (.slice (some ⟨d,0,none⟩) q c)).setCell ⟨w.heap.size,0,none⟩ (.slice a1 x c1)):=⟨fun b _ _ hv _ _=>hx b (by have:=U b (z.out.own.var b hv);omega),fun b _ _ k=>hx b (hu b k)⟩
 refine⟨_,_,S4.same (fun b hb=>hx b (by have:=U b (C b hb);omega)) (fun b _ _ k=>hx b (hu b k)),(J4 j (by simp)).stay P (fun b e=>hx b (by have:=U b (z.out.own.bck j (by simp) b e);omega)),fun b hb=>.inl (C b hb),?_⟩;have h5:=(Chg.of (F:=K) T.out).trans I (fun b _ e=>e.elim (fun e=>by cases e;exact z.out.own.jrn _ rfl) (fun e=>by subst e;exact z.out.own.top));exact h5.cell (.inr (Nat.le_refl _)) _
theorem tY{a j':Jr}(h:gh ((T1 ++ [a] ++ [j]).reverse.map Jr.U) W E)(b:j'.U=a.U ++ j.U):gh ((T1 ++ [j']).reverse.map Jr.U) W.tail E:=by
 rw[List.reverse_append,List.reverse_append] at h;rw[List.reverse_append];simp only[List.reverse_cons,List.reverse_nil,List.nil_append,List.cons_append,List.map_cons] at h ⊢
 match W,h with
 | e2 :: e1 :: W,⟨h1,h2,h3⟩=>exact⟨by rw[b,yc,h1];exact h2,h3⟩
theorem DD(h:JrA w V D g j):∃ cs,eZ w V D g j.U cs/\Ev w j.v cs:=by
 obtain⟨cs,a,⟨e1,e2,e3⟩ | ⟨b,c,e1,e2,d⟩⟩:=h
 ·exact⟨cs,a,.inl ⟨e2,List.eq_nil_of_length_eq_zero (by rw[a.1,e3];rfl)⟩⟩
 ·exact⟨cs,a,.inr ⟨_,c,by rw[a.1];exact e2,fun i x hx=>by rw[Addr.add_lit,Nat.zero_add];exact d.cell hx⟩⟩
theorem xnote0(h:SX w K D F V g m Q jv [] oj n N) :
  Calls Tryz.prog 159 #[.pointer (some ⟨g,0,none⟩),bv] w fun e w'=>e=.returned (.tuple #[])/\w'=w:=by
 have b:=pH h;clear h;go_enter Tryz.func159,Tryz.ntmps159;go_wp2_with (go_at_call 158;go_must (refine b.mono ?_);rintro e y ⟨rfl,hy⟩;replace hy:=hy.symm;subst hy);go_end0;exact⟨rfl,rfl⟩
theorem uu(h:SA w K D g E [] n N) :
  Calls Tryz.prog 137 #[.pointer (some ⟨g,0,none⟩)] w fun e w'=>e=.returned (.int .i64 62)/\w'=w:=by
 have u:=kE h;clear h;go_enter Tryz.func137,Tryz.ntmps137;go_wp2_with (go_at_call 158;go_must (refine u.mono ?_);rintro e y ⟨rfl,hy⟩;replace hy:=hy.symm;subst hy);go_ret;exact⟨rfl,rfl⟩
theorem CB(h:SX w K D F V g m Q jv T0 oj n N)(k:JrA w V D g j)(hv:j.v=bv)(ht:Kv.tot T0+j.U.length+Q.flatten.length<=N)(q:N<=100000000)(c:gh ((T0 ++ [j]).reverse.map Jr.U) W Q.flatten) :
  Calls Tryz.prog 159 #[.pointer (some ⟨g,0,none⟩),bv] w fun e w'=>e=.returned (.tuple #[])/\∃ K',SA w' K' D g Q.flatten W.tail n N/\(∀ b,K' b->K b\/w.heap.size<=b)/\Chg K w w':=by
 rcases List.eq_nil_or_concat T0 with rfl | ⟨p,o,rfl⟩
 ·refine(xnote0 h).mono ?_
  rintro e w' ⟨rfl,rfl⟩;refine⟨rfl,K,h.shut rfl ?_,fun b=>.inl,Chg.refl _ _⟩
  match W,c with
  | e :: W,⟨_,h2⟩=>exact mE h2
 ·rw[List.concat_eq_append] at h c ht;obtain⟨cs,d,i⟩:=DD k;subst hv;refine(Fy (N':=N) h d i (Nat.le_refl _) ht (by omega)).mono ?_
  rintro e w' ⟨rfl,K',l,a,X,f,hc⟩;exact⟨rfl,K',X.shut rfl (tY c a),f,hc⟩
theorem uz(h:SA w K D g E W n N)(o:W≠[])(P:N<=100000000) :
  Calls Tryz.prog 137 #[.pointer (some ⟨g,0,none⟩)] w (Ends w K D g E W.tail n N (.int .i64 0)):=by
 have u:=kE h;obtain⟨F,V,m,Q,S,T,Z,hX,rfl,i⟩:=h.open
 have c:T.length=W.length:=by have:=i.len;simp at this;exact this
 rcases List.eq_nil_or_concat T with rfl | ⟨O,j,rfl⟩
 ·exact absurd (List.eq_nil_of_length_eq_zero c.symm) o
 ·rw[List.concat_eq_append] at hX i c;have t:=xend hX
  have r:Kv.tot O+j.U.length+Q.flatten.length<=N:=by have:=hX.tot;rw[fW] at this;exact this
  obtain⟨a1,z,c1,d⟩:=jS (hX.jn.each j (by simp));rw[d] at t;have H:=ax d;have J:=ax i;have G:=ax r
  have l:¬ ((W.length:Int)=0):=by have:=List.length_pos_iff.2 o;omega
  clear hX i h c o d r;obtain⟨q,hq⟩:∃ q,W.length=q:=⟨_,rfl⟩
  rw[hq] at u l;clear hq
  have s:∀ w,(Instr.field 265 (.agg #[.slice a1 z c1]) 0).run Tryz.prog w=.ok (.slice a1 z c1) w:=fun w=>by kernel_rfl
  go_enter Tryz.func137,Tryz.ntmps137;go_wp2_with first
   | (go_at_call 158;go_must (refine u.mono ?_);rintro e y ⟨rfl,hy⟩;replace hy:=hy.symm;subst hy)
   | (go_at_call 177;go_must (refine t.mono ?_);rintro e X ⟨rfl,R,L,C,B,f,x⟩)
   | (go_at_call 159;go_must (refine(CB C B H.out G.out P J.out).mono ?_);rintro e Y ⟨rfl,A,M,p,I⟩)
  go_ret;refine⟨rfl,A,M.mono (fun _ _ h=>.inl h),fun b hb=>?_,x.trans I (fun b hb e=>(f b e).elim id (fun h=>by omega))⟩;rcases p b hb with v | v
  ·exact f b v
  ·exact .inr (by have:=x.size;omega)
end
section
variable {n c:Nat}{ao:Option Addr}{Q:List Value}{Rd:World->Prop}{w:World}
def ArBF(Q:List Value)(i:Nat)(args:Array Value)(_:Nat)(_:World):Prop:=∃ p j,j+1+i=Q.length/\Q[j]?=some p/\args=#[.int .i64 (j:Int),p]
theorem wN{Tp:TypeId->Prop}{bs:Nat}(hn:Q.length=n)(E:n<=1000000000)(r:∀ p∈Q,∃ f cap,p=.func (.func f) #[] cap)(hb:∀ V,Rd V->V.cell? ⟨bs,0,none⟩=some (.slice ao n c)/\∀ j p,Q[j]?=some p->∃ b o,ao=some ⟨b,o,none⟩/\V.cell? ⟨b,o+j,none⟩=some p) :
  Itr Tp 217 #[.pointer (some ⟨bs,0,none⟩)] n (ArBF Q) Rd:=by
 intro l J M W N H t G C;have D:=(hb W (t 0 W C)).1
 have hb:Hid _:=hb
 have hn:Hid _:=hn;replace r:=ax r
 have S:IntKind.i64.wrap ((n:Int) - 1)=(n:Int) - 1:=by rw[IntKind.wrap_i64];omega
 refine(callsIn_wide (n:=0)).1 ?_
 refine callsIn_of_wp Tryz.func217 rfl trivial ?_ rfl;simp only[Tryz.ntmps217,List.size_toArray,List.length_cons,List.length_nil,Nat.reduceAdd,Nat.reduceSub,Array.replicate_succ,Array.replicate_zero,List.push_toArray,List.append_toArray,List.nil_append,List.cons_append];gi_wp2;gi_loopw [3] (fun B wr=>∃ i:Nat,i<=n/\B=.int .i64 ((n:Int) - 1 - (i:Int))/\W.heap.size<=wr.heap.size/\J i wr) (fun B _=>(intOf B+1).toNat)
 case atStart=>exact⟨0,Nat.zero_le _,by simp,Nat.le_refl _,C⟩
 case round =>
  clear D;obtain⟨i,hi,rfl,d,g⟩:=hrel;obtain⟨D,q⟩:=hb.out wr (t _ _ g);by_cases s:i < n
  ·obtain⟨j,y⟩:∃ j,j+1+i=n:=⟨n - 1 - i,by omega⟩
   obtain⟨p,z⟩:∃ p,Q[j]?=some p:=⟨Q[j]'(by have:=hn.out;omega),List.getElem?_eq_getElem _⟩
   obtain⟨b,o,rfl,L⟩:=q j p z;obtain⟨f,cap,rfl⟩:=r.out p (List.mem_of_getElem? z)
   have u:(n:Int) - 1 - (i:Int)=(j:Int):=by omega
   have K:Hid (j+1+i=n):=y;have A:=G i _ wr wr s g d (Below.refl _ _) ⟨_,j,by rw[hn.out];exact y,z,rfl⟩;obtain⟨fn,tmps,assign,body,hy,I⟩:=A;rw[u]
   have O:IntKind.i64.wrap ((j:Int) - 1)=(j:Int) - 1:=by rw[IntKind.wrap_i64];omega
   have z1:(j:Int) < n:=by omega
   clear q u y;gi_wp2;refine⟨rfl,I.mono ?_⟩;rintro P R ⟨x,⟨rfl,m⟩ | ⟨rfl,m⟩⟩
   ·gi_wp2;go_roundw
    case rel=>exact⟨i+1,by omega,by have:=K.out;congr 1;omega,Nat.le_trans d x.size,m⟩
    case measure=>simp[intOf]
   ·gi_wp2;refine bodyPost_ret (results_none rfl _ _ _) rfl ?_
    exact⟨⟨_,rfl⟩,Nat.le_trans d x.size,.inr ⟨i,s,m⟩⟩
  ·have v:i=n:=by omega
   have u:(n:Int) - 1 - (i:Int)=-1:=by omega
   rw[u]
   have F:Hid (J n wr):=by show J n wr;rw[<- v];exact g
   clear q u v g;gi_wp2;go_end0;exact⟨⟨_,rfl⟩,d,.inl F.out⟩
theorem yr:Calls Tryz.prog 176 #[.slice ao n c] w fun e w'=>e=.returned (.func (.func 217) #[] #[.pointer (some ⟨w.heap.size,0,none⟩)])/\Blk w' w.heap.size [.slice ao n c] 263/\Below w.heap.size w w':=by
 go_enter Tryz.func176,Tryz.ntmps176;go_wp2;go_ret;exact⟨rfl,aj w _ _,aa w _⟩
end
section
variable {w w' w2 X Y:World}{B g m n N bs i jj:Nat}{K D F V:Nat->Prop}{Q:List (List KV)}{jv p:Value}{T T0:List Jr}{oj:Option Nat}{cs xs:List Value}{j:Jr}
def RowC(w:World)(F:Nat->Prop)(v:Value)(cs:List Value):Prop:=(v=.slice none 0 0/\cs=[])\/∃ b c,v=.slice (some ⟨b,0,none⟩) cs.length c/\Rw w 1 1 b cs.length c cs/\¬ F b
structure RbI(w w2:World)(K D F V:Nat->Prop)(g m:Nat)(Q:List (List KV))(jv:Value)(T0:List Jr)(oj:Option Nat)(n N:Nat)(j:Jr)(cs:List Value)(bs i:Nat)(X:World):Prop where
 ex:∃ K' D' F' Q',SX X K' D' F' V g m Q' jv T0 oj n N/\eZ X V D' g j.U cs/\RowC X F' j.v cs/\Blk X bs [j.v] 263/\Q'.flatten=iN (j.U.drop (j.U.length - i)) Q.flatten/\Kv.tot T0+Q'.flatten.length+(j.U.length - i)<=N/\(∀ b,K' b->K b\/w.heap.size<=b)/\(∀ b,D' b->D b\/w.heap.size<=b)/\(∀ b,F' b->F b\/w2.heap.size<=b)/\Chg K w X/\w2.heap.size<=X.heap.size
theorem SX.rcd(h:SX w K D F V g m Q jv T oj n N)(hr:Rec B w w'):SX w' K D F V g m Q jv T oj n N :=
 h.same (fun b hb=>by obtain⟨cs,t,k,_⟩:=h.own.kind b hb;rw[(hr.blk k).blk,k.blk]) (fun b _ _ hk=>by obtain⟨cs,k⟩:=hk;rw[(hr.blk k).blk,k.blk])
theorem eZ.rcd{U:List Und}(h:eZ w V D g U cs)(hr:Rec B w w'):eZ w' V D g U cs :=
 h.stay ⟨fun b _ _ _ k _=>by rw[(hr.blk k).blk,k.blk],fun b _ _ hk=>by obtain⟨cs,k⟩:=hk;rw[(hr.blk k).blk,k.blk]⟩
theorem Rw.rcd{E:TypeId}{k b c:Nat}(h:Rw w E k b n c xs)(hr:Rec B w w'):Rw w' E k b n c xs:=by
 obtain⟨cs,hk⟩:=h.kind;exact h.same (by rw[(hr.blk hk).blk,hk.blk])
theorem qd{w1:World}(h:Chg K w w1)(hr:Rec B w1 w')(c:w.heap.size<=B):Chg K w w' :=
 ⟨hr.os.trans h.os,hr.tape.trans h.tape,hr.output.trans h.output,Nat.le_trans h.size hr.size,fun b hb hk=>by
  have e:=h.same b hb hk;rw[<- e]
  have a:b < w1.heap.size:=Nat.lt_of_lt_of_le hb h.size;rw[Array.getElem?_eq_getElem a]
  exact hr.same b _ (Array.getElem?_eq_getElem a) (.inl (by omega))⟩
theorem RbI.rcd(h:RbI w w2 K D F V g m Q jv T0 oj n N j cs bs i X)(hr:Rec w2.heap.size X Y)(hw:w.heap.size<=w2.heap.size):RbI w w2 K D F V g m Q jv T0 oj n N j cs bs i Y:=by
 obtain⟨z,t,k,u,o,f,s,l,q,v,p,r,x,a,d⟩:=h.ex;refine⟨z,t,k,u,o.rcd hr,f.rcd hr,s.imp id ?_,hr.blk l,q,v,p,r,x,qd a hr hw,Nat.le_trans d hr.size⟩;rintro⟨b,c,e,y,hn⟩;exact⟨b,c,e,Rw.rcd y hr,hn⟩
theorem RbI.keep(h:RbI w w2 K D F V g m Q jv T0 oj n N j cs bs i X)(hb:Below X.heap.size X Y)(hw:w.heap.size<=w2.heap.size):RbI w w2 K D F V g m Q jv T0 oj n N j cs bs i Y:=h.rcd (Rec.of hb) hw
theorem xj{α:Type}{U:List α}{u:α}(b:jj+1+i=U.length)(hu:U[jj]?=some u):U.drop (U.length - (i+1))=u :: U.drop (U.length - i):=by
 have e1:U.length - (i+1)=jj:=by omega
 have e2:U.length - i=jj+1:=by omega
 obtain⟨a,rfl⟩:=List.getElem?_eq_some_iff.1 hu;rw[e1,e2];exact List.drop_eq_getElem_cons a
theorem RbI.step(h:RbI w w2 K D F V g m Q jv T0 oj n N j cs bs i X)(L:bs < w2.heap.size)(B:¬ F bs)(hj:jj+1+i=cs.length)(hp:cs[jj]?=some p)(hN:N<=100000000)(hw:w.heap.size<=w2.heap.size) :
  ∃ f cap,p=.func (.func f) #[] cap/\(f=205\/f=206)/\Calls Tryz.prog f cap X fun e Y=>e=.returned (.tuple #[])/\RbI w w2 K D F V g m Q jv T0 oj n N j cs bs (i+1) Y/\aZ (fun t=>t≠5) w2.heap.size X Y:=by
 obtain⟨K',D',G,H,q,s,h3,R,h5,h6,z,T,I,y,A⟩:=h.ex;have hlen:=s.1;obtain⟨u,hu⟩:∃ u,j.U[jj]?=some u:=⟨j.U[jj]'(by omega),List.getElem?_eq_getElem _⟩
 have E:=s.2 jj u p hu hp;obtain⟨f,cap,e,d⟩:=E9 q E hN (by omega);refine⟨f,cap,e,?_,d.mono ?_⟩
 ·obtain⟨s1,s2,kv,v1,v2,b1,b2,ok,⟨_,e2⟩ | ⟨s3,vv,x,v3,b3,ov,_,e2⟩⟩:=E.ex
  ·rw[e] at e2;cases e2;exact .inl rfl
  ·rw[e] at e2;cases e2;exact .inr rfl
 ·rintro e Y ⟨rfl,O,Q2,S2,r,l,hc⟩
  have a:∀ b,G b->K' b:=q.own.map
  have v:jm V D' X Y:=⟨fun b _ _ hv k _=>hc.same b k.lt (q.own.jQ b hv),fun b W _ k=>hc.same b W (fun f=>by obtain⟨cs,k⟩:=k;exact q.map.noU f cs k)⟩
  have C:¬ G bs:=fun hf=>(I bs hf).elim B (fun h=>by omega)
  refine⟨rfl,⟨_,_,O,Q2,S2,(s.stay v).mono (fun _ h=>h) (fun _ _ h=>.inl h),?_,R.chg hc C,?_,?_,fun b hb=>?_,fun b hb=>?_,fun b hb=>?_,?_,?_⟩,?_⟩
  ·rcases h3 with h | ⟨b,c,e,J,hn⟩
   ·exact .inl h
   ·exact .inr ⟨b,c,e,J.chg hc hn,fun hf=>(l b hf).elim hn (fun h=>by have:=J.lt;omega)⟩
  ·rw[r,h5,xj (by omega) hu];rfl
  ·have:=BJ q.map.ord.flat u;rw[r]
   have P:H.flatten.length=H.flatten.length:=rfl;omega
  ·rcases hb with⟨hb,_⟩ | hb
   ·exact z b hb
   ·rcases l b hb with h | h
    ·exact z b (a b h)
    ·exact .inr (by omega)
  ·rcases hb with hb | hb
   ·exact T b hb
   ·exact .inr (by omega)
  ·rcases l b hb with h | h
   ·exact I b h
   ·exact .inr (by omega)
  ·exact y.trans hc (fun b hb hf=>(z b (a b hf)).elim id (fun h=>by omega))
  ·exact Nat.le_trans A hc.size
  ·refine⟨hc.size,fun k o _ hk S=>(hc.same k (lt_of_block hk) (fun hf=>?_)).trans hk⟩;obtain⟨Z,t,kb,M⟩:=q.own.kind k (a k hf);rw[kb.blk] at hk
   cases hk;exact S _ _ _ rfl M
end
section
variable {w:World}{K D:Nat->Prop}{g n N:Nat}{E:aA}{W:List aA}
theorem qC(h:SA w K D g E [] n N) :
  Calls Tryz.prog 136 #[.pointer (some ⟨g,0,none⟩)] w fun e w'=>e=.returned (.int .i64 62)/\w'=w:=by
 have u:=kE h;clear h;go_enter Tryz.func136,Tryz.ntmps136;go_wp2_with (go_at_call 158;go_must (refine u.mono ?_);rintro e y ⟨rfl,hy⟩;replace hy:=hy.symm;subst hy);go_ret;exact⟨rfl,rfl⟩
theorem qM{K D:Nat→Prop}{e0:aA}(h:SA w K D g E (e0 :: W) n N)(hN:N≤100000000) :
    Calls Tryz.prog 136 #[.pointer (some ⟨g,0,none⟩)] w (Ends w K D g e0 W n N (.int .i64 0)):=by
  have u:=kE h;obtain⟨F,V,m,Q,jv,T,oj,hX,rfl,hB⟩:= h.open;rcases List.eq_nil_or_concat T with rfl | ⟨T0,j,rfl⟩
  · exact hB.elim
  rw[List.concat_eq_append] at hX hB;have ue:=xend hX;have Y:=hX.tot;rw[fW] at Y;rw[List.reverse_append] at hB;obtain⟨S,d⟩:iN j.U Q.flatten=e0∧gh (T0.reverse.map Jr.U) W e0:=hB
  have af:∀ b,K b→b < w.heap.size:=fun b hb=>by obtain⟨cs,t,k,_⟩:= hX.own.kind b hb;exact k.lt
  obtain⟨a1,n1,c1,M⟩:= jS (hX.jn.each j (by simp));rw[M] at ue;have HV:=ax M;have HX:=ax hX;have H1:=ax S;have H2:=ax d
  have hlW:¬ (((e0 :: W).length:Int)=0):=by simp;omega
  clear h hX M S d;generalize (e0 :: W).length=q at *
  have hfld:∀ w,(Instr.field 265 (.agg #[.slice a1 n1 c1]) 0).run Tryz.prog w=.ok (.slice a1 n1 c1) w:=fun w=>by kernel_rfl
  refine(callsIn_wide (n:=0)).1 ?_
  refine callsIn_of_wp_marks Tryz.func136 rfl trivial ?_ rfl;simp only[Tryz.ntmps136,List.size_toArray,List.length_cons,List.length_nil,Nat.reduceAdd,Nat.reduceSub,Array.replicate_succ,Array.replicate_zero,List.push_toArray,List.append_toArray,List.nil_append,List.cons_append]
  gi_wp2_with (first
    | (refine⟨trivial,rfl,?_⟩;gi_at_call 158;refine(callsIn_wide.2 u).mono ?_;rintro e' y ⟨rfl,hy⟩;replace hy:=hy.symm;subst hy)
    | (refine⟨trivial,rfl,?_⟩;gi_at_call 177;refine(callsIn_wide.2 ue).mono ?_;rintro e' O ⟨rfl,K1,L,X1,J1,hK1,C1⟩)
    | (refine⟨trivial,rfl,?_⟩;gi_at_call 176;refine(callsIn_wide.2 yr).mono ?_;rintro e' C ⟨rfl,P,d⟩))
  have hs1:w.heap.size≤O.heap.size:=C1.size
  have Z:O.heap.size < C.heap.size:=P.lt
  have l:w.heap.size≤C.heap.size:=by omega
  obtain⟨cs,hC,hr⟩:= J1
  have hU:cs.length=j.U.length:=hC.1
  have hFK:∀ b,F b→b < w.heap.size:=fun b hb=>af b (HX.out.own.map b hb)
  have s:RowC C F j.v cs:=by
    rcases hr with⟨_,e2,e3⟩ | ⟨b,c,e1,e2,hR⟩
    · exact .inl ⟨e2,List.eq_nil_of_length_eq_zero (by rw[hU,e3];rfl)⟩
    · exact .inr ⟨b,c,by rw[hU];exact e2,by rw[hU];exact hR.keep d,HX.out.own.lE j (by simp) b e1⟩
  have ag : ∀ p ∈ cs, ∃ f cap, p = .func (.func f) #[] cap := fun p z => by
    obtain⟨i,hi⟩:= List.getElem?_of_mem z;have hlt:=(List.getElem?_eq_some_iff.1 hi).1;obtain⟨s1,s2,kv,v1,v2,b1,b2,ok,⟨_,e2⟩ | ⟨s3,vv,x,v3,b3,ov,_,e2⟩⟩:= (hC.2 i (j.U[i]'(by omega)) p (List.getElem?_eq_getElem _) hi).ex
    · exact⟨_,_,e2⟩
    · exact⟨_,_,e2⟩
  have H:cs.length≤1000000000:=by omega
  have hn1:n1=cs.length:=by
    have e:=HV.out;rcases s with⟨e2,e3⟩ | ⟨b,c,e2,_⟩
    · rw[e2] at e;cases e;rw[e3];rfl
    · rw[e2] at e;cases e;rfl
  subst hn1
  have I0:RbI w C K D F V g m Q L T0 oj n N j cs O.heap.size 0 C:=⟨K1,D,F,Q,X1.keep d,hC.stay ⟨fun b _ _ _ k _=>d.block b k.lt,fun b hl _ _=>d.block b hl⟩,s,by rw[HV.out];exact P,by rw[Nat.sub_zero,List.drop_of_length_le (Nat.le_refl _)];rfl,by omega,hK1,fun _ h=>.inl h,fun _ h=>.inl h,C1.trans (Chg.of (F:=K) d) (fun _ _ h=>h),Nat.le_refl _⟩
  have ae:¬ F O.heap.size:=fun hf=>by have:=hFK _ hf;omega
  have IT := wN (Tp := fun t => t ≠ 5) (bs := O.heap.size) (c := c1) (ao := a1) (Q := cs) (n := cs.length) (Rd := fun X => ∃ i, RbI w C K D F V g m Q L T0 oj n N j cs O.heap.size i X) rfl H ag (fun X ⟨i, R⟩ => by
    obtain⟨K',D',F',Q',h1,h2,h3,h4,-⟩:= R.ex;rw[HV.out] at h4;refine⟨h4.cell (i:=0) rfl,fun jj p z=>?_⟩;rcases h3 with⟨_,e⟩ | ⟨b,c,e2,hR,_⟩
    · rw[e] at z;simp at z
    · have e:=HV.out
      rw[e2] at e
      cases e
      exact⟨b,0,rfl,by rw[Nat.zero_add];exact hR.cell z⟩)
  replace H1:=ax H1.out;have HI0:=ax I0;clear X1 hC hr s ag I0 P d;refine ke IT (by rfl) (enters_of Tryz.func217 (by kernel_rfl) rfl) (fun i args n V V' h _=>h) (fun i args n V h=>by obtain⟨p,j,_,_,rfl⟩:= h;rfl)
    (fun i X=>RbI w C K D F V g m Q L T0 oj n N j cs O.heap.size i X) (fun _ _ _=>False)
    (fun i A B hx hr=>hx.rcd hr l) (fun _ _ _ _ hx _=>hx) (fun i X hx=>⟨i,hx⟩) HI0.out ?_ ?_ ?_
  · rintro l2 i args V' Wv hl2 hlV hrec hiN R hb ⟨p,jj,hj,z,rfl⟩
    obtain⟨f,cap,G,hff,-⟩:= R.step Z ae hj z hN l;subst G;simp;gi_wp2;refine⟨Below.refl _ _,?_⟩;intro V2 W2 ad ab ac aa hsz3 hV2 r hrec2;obtain⟨f',cap',G,-,o⟩:= (ad.keep ab l).step Z ae hj z hN l
    cases G;clear R hb ad ab ac aa;rcases hff with rfl | rfl
    · gi_wp2_with (refine⟨trivial,rfl,?_⟩;gi_at_call 205;refine(CallsIn.inRound l2 (callsIn_wide.2 o)).mono ?_;rintro e' w5 ⟨rfl,I,J⟩)
      exact⟨J,I⟩
    · gi_wp2_with (refine⟨trivial,rfl,?_⟩;gi_at_call 206;refine(CallsIn.inRound l2 (callsIn_wide.2 o)).mono ?_;rintro e' w5 ⟨rfl,I,J⟩)
      exact⟨J,I⟩
  · rintro D' W' hD hK R
    gi_wp2;refine⟨by simp,.inl ⟨_,_,rfl,run_takeDeferred hK,?_⟩⟩;have R3:=Rec.put (B:=C.heap.size) hK rfl hD (.deferred none);obtain⟨K',D2,F',Q',h1,h2,h3,h4,h5,h6,h7,h8,h9,h10,h11⟩:= (R.rcd R3 l).ex;refine⟨_,results_tmp rfl _ _ _,?_⟩;rw[hU,Nat.sub_self,List.drop_zero,H1.out] at h5;exact⟨rfl,K',(h1.shut h5 H2.out).mono (fun b _ h=>h8 b h),h7,h10⟩
  · rintro D' c i W' hD hK hi hF
    exact hF.elim
theorem xw(h:SA w K D g E W n N)(a:N<=100000000) :
  Calls Tryz.prog 136 #[.pointer (some ⟨g,0,none⟩)] w (Ends w K D g (W.headD E) W.tail n N (.int .i64 (if W=[] then 62 else 0))):=by
 cases W with
 | nil =>
  refine(qC h).mono ?_
  rintro e b ⟨rfl,rfl⟩;exact⟨by simp,K,h.mono (fun _ _ h=>.inl h),fun _=>.inl,Chg.refl _ _⟩
 | cons e0 W=>simpa using qM h a
theorem E7(h:SA w K D g E W n N)(a:N<=100000000) :
  Calls Tryz.prog 137 #[.pointer (some ⟨g,0,none⟩)] w (Ends w K D g E W.tail n N (.int .i64 (if W=[] then 62 else 0))):=by
 cases W with
 | nil =>
  refine(uu h).mono ?_
  rintro e b ⟨rfl,rfl⟩;exact⟨by simp,K,h.mono (fun _ _ h=>.inl h),fun _=>.inl,Chg.refl _ _⟩
 | cons e0 W=>simpa using uz h (by simp) a
theorem sbegin(h:SA w K D g E W n N) :
  Calls Tryz.prog 133 #[.pointer (some ⟨g,0,none⟩)] w (Ends w K D g E (if W.length=16 then W else E :: W) n N (.int .i64 (if W.length=16 then 62 else 0))):=by
 by_cases a:W.length=16
 ·rw[if_pos a,if_pos a];refine(ri h a).mono ?_
  rintro e b ⟨rfl,rfl⟩;exact⟨rfl,K,h.mono (fun _ _ h=>.inl h),fun _=>.inl,Chg.refl _ _⟩
 ·rw[if_neg a,if_neg a];exact yf h a
end
section
variable {n:Nat}{ops:Array Oper}{rest:List Oper}{w:World}{v jv:Value}{Q:List (List KV)}{T:List Jr}{oj:Option Nat}{X:Nat->Prop}
theorem qE{F:Fence}{Q:Exit->Act->World->Prop}{o:Oper}{a:Act}{w':World}(c:o.guard=none)(hF:∀ f,F.fn f)(b:o.semAt F.round a.eval=execOp a.eval o)(hrun:(execOp a.eval o).run Tryz.prog w=.ok (.value v) w')(h:wpListIn F n Tryz.prog ops Q rest (a.put o.dst v) w'):wpListIn F n Tryz.prog ops Q (o :: rest) a w :=
 wpListIn_plain c fun K d=>by
  unfold Oper.wpIn;rw[b,hrun,Oper.uponIn_value];exact⟨fun f _=>hF f,d _ _ h⟩
theorem SX.wm{K D F V:Nat->Prop}{g m:Nat}{N:Nat}(h:SX w K D F V g m Q jv T oj n N)(d:N<=100000000)(h1:∀ b,X b->¬ F b)(a:∀ b,X b->∀ cs,¬ Blk w b cs 5)(c:∀ b,X b->b < w.heap.size) :
  ∃ L,Wm w X F D m L/\∀ f t,(wlk (ens L) f t).map En.kl2=Q.flatten.filter (yW f t):=by
 obtain⟨L,rfl,A,O,S,k,r⟩:=h.map.ex;exact⟨L,⟨A,O,fun es he=>(S.one es he).2,S.few k d,r,h1,a,c⟩,fun f t=>zC O f t⟩
end
section
variable {g x:Nat}{V W1:World}{E:List En}{args:Array Value}{X:Nat→Prop}
def tick(g:Nat)(V:World)(x:Nat):World:=V.setCell ⟨g,2,none⟩ (.int .i64 ((x:Int)+1))
def ItrC(Tp:TypeId->Prop)(g x0:Nat)(gf:Nat)(lb:Array Value)(N:Nat)(Ar:Nat->Array Value->Nat->World->Prop)(Rd:World->Prop):Prop :=
 ∀ (l:Nat) (J0:World->Prop) (J Jt Jx:Nat->World->Prop) (W:World),St W.heap.size J0->(∀ i,St W.heap.size (J i))->(∀ i,St W.heap.size (Jt i))->(∀ i,St W.heap.size (Jx i))->g < W.heap.size ->
  (∀ V,J0 V->V.cell? ⟨g,2,none⟩=some (.int .i64 x0)/\V.frozen? ⟨g,2,none⟩=false/\Rd V/\J 0 (tick g V x0)) ->
  (∀ i V,J i V->V.cell? ⟨g,2,none⟩=some (.int .i64 ((x0+1+i:Nat):Int))/\V.frozen? ⟨g,2,none⟩=false/\Rd V/\(i < N->Jt i (tick g V (x0+1+i)))) ->
  (∀ i args V V',i < N->Jt i V->W.heap.size<=V.heap.size->Below V.heap.size V V'->Ar i args V.heap.size V'->YieldAt Fence.wide 0 Tryz.prog l args V' fun e V''=>aZ Tp W.heap.size V' V''/\((e=.returned (.bool true)/\J (i+1) V'')\/(e=.returned (.bool false)/\Jx (i+1) V''))) ->
  J0 W ->
  Calls Tryz.prog gf (#[.func (.yield l) #[] #[]] ++ lb) W fun e W'=>(∃ v,e=.returned v)/\W.heap.size<=W'.heap.size/\(J N W'\/∃ i,i < N/\Jx (i+1) W')
theorem uf{b:World}(hb:Below V.heap.size V b):Below (tick g V x).heap.size (tick g V x) (tick g b x):=by
 unfold tick;refine⟨hb.os,hb.tape,hb.output,by simpa[World.setCell] using hb.size,fun k hk=>?_⟩
 have a:k < V.heap.size:=by simpa[World.setCell] using hk
 by_cases e:k=g
 ·subst e;have c:=hb.block k a;simp only[World.setCell,Array.getElem?_modify,c]
 ·rw[Below.heap_setCell _ _ _ _ (by exact e),Below.heap_setCell _ _ _ _ (by exact e)];exact hb.block k a
theorem fi(g x:Nat)(V:World):(tick g V x).heap.size=V.heap.size:=by simp[tick,World.setCell]
theorem dU(g x:Nat)(V:World):Chg (·=g) V (tick g V x):=(Chg.refl (·=g) V).cell (.inl rfl) _
theorem zg{i n:Nat}(h:ArC E i args n V)(j:∃ cs,Blk V g cs 152):ArC E i args n (tick g V x):=by
 obtain⟨e,kv,vv,s,m,c,f,l,o⟩:=h
 have a:∀ b,b=g->∀ cs,¬ Blk V b cs 5:=fun b hb cs k=>by
  subst hb;obtain⟨d,p⟩:=j;exact absurd (k.eq p).2 (by decide)
 exact⟨e,kv,vv,s,m,c,f.chg (dU g x V) a,l.chg (dU g x V) a,o⟩
def RdC(X:Nat->Prop)(W1:World)(g bs1 bs2 bw:Nat)(V:World):Prop:=Chg X W1 V/\Blk V bs1 [.pointer (some ⟨g,0,none⟩)] 46/\Blk V bs2 [.func (.func 347) #[] #[.pointer (some ⟨bw,0,none⟩)]] 291/\∃ cs,Blk V g cs 152
theorem la{Tp:TypeId→Prop}{bs1 bs2 bw x0:Nat}(IT:Itr Tp 347 #[.pointer (some ⟨bw,0,none⟩)] E.length (ArC E) (fun V=>Chg X W1 V))(hT:¬ Tp 38)(hx:x0+E.length≤3000000000000000000) :
    ItrC Tp g x0 303 #[.pointer (some ⟨bs1,0,none⟩),.pointer (some ⟨bs2,0,none⟩)] E.length (ArC E) (RdC X W1 g bs1 bs2 bw):=by
  intro l J0 J Jt Jx W hS0 F hSt T hgW G hJ hY Y;have B1:=aa W (.cells #[.func (.yield l) #[] #[]] 38);have Y1:=aj W [.func (.yield l) #[] #[]] 38;have J1:=hS0 _ _ Y (Rec.of B1);obtain⟨q1,q2,⟨r1,r2,r3,r4⟩,q3⟩:= G _ J1
  have s1:(W.alloc (.cells #[.func (.yield l) #[] #[]] 38)).heap.size=W.heap.size+1:=by simp
  have cs:=r2.cell (i:=0) rfl;have uc:=kF (g:=g) q1 q2 (by omega) (by omega);have Yt:=Y1.chg (dU g x0 _) (by omega);have K:=(hJ 0 _ q3).2.2.1;have cw:=K.2.2.1.cell (i:=0) rfl;have HY:=ax hY;have HJ:=ax hJ;clear G hJ hY Y J1 B1 Y1 r1 r2 r3 r4 q1 q2;obtain⟨Z,H⟩:∃ Z,Hid (W.alloc (.cells #[.func (.yield l) #[] #[]] 38)=Z):=⟨_,rfl⟩;rw[H.out] at q3 s1 uc Yt K cw;refine(callsIn_wide (n:=0)).1 ?_
  refine callsIn_of_wp_marks Tryz.func303 rfl trivial ?_ rfl;simp only[Tryz.ntmps303,List.size_toArray,List.length_cons,List.length_nil,Nat.reduceAdd,Nat.reduceSub,Array.replicate_succ,Array.replicate_zero,List.push_toArray,List.append_toArray,List.nil_append,List.cons_append];have tsz:=fi g x0 Z;gi_wp2_with (refine⟨trivial,rfl,?_⟩;gi_at_call 70;rw[H.out];refine(callsIn_wide.2 uc).mono ?_;rintro e' w0 ⟨rfl,hw0⟩;obtain rfl:w0=tick g Z x0:=hw0;clear uc cs);generalize tick g Z x0=Wt at *
  have sT:Wt.heap.size=W.heap.size+1:=by omega
  refine ke IT (by rfl) (enters_of Tryz.func347 (by kernel_rfl) rfl) (fun i args n V V' h hc=>h.cel hc) (fun i args n V h=>by obtain⟨e,kv,vv,s,_,rfl,_⟩:= h;rfl)
    (fun i V=>J i V∧W.heap.size+1≤V.heap.size∧Blk V W.heap.size [.func (.yield l) #[] #[]] 38)
    (fun c i V=>c=.ret∧Jx i V∧W.heap.size+1≤V.heap.size)
    (fun i A B hx C=>⟨F i A B hx.1 (C.mono (by omega)),Nat.le_trans hx.2.1 C.size,lT hx.2.2 C⟩)
    (fun c i A B hx C=>⟨hx.1,T i A B hx.2.1 (C.mono (by omega)),Nat.le_trans hx.2.2 C.size⟩)
    (fun i V hv=>(HJ.out i V hv.1).2.2.1.1) ⟨q3,by omega,Yt⟩ ?_ ?_ ?_
  · rintro l2 i args V Wv hl hlV hrec f ⟨hJi,D,hY2⟩ hb ⟨e0,kv,vv,s0,he0,rfl,M,hv0,_⟩
    obtain⟨ak,nk,hk1⟩:= M.shape;obtain⟨av,nv,hv1⟩:= hv0.shape;subst hk1 hv1;simp;gi_wp2;refine⟨Below.refl _ _,?_⟩;intro V2 d L P y b j I m U r hrec2;obtain⟨p1,p2,⟨k1,k2,k3,k4⟩,p3⟩:= HJ.out i V2 L
    have glt:g < V2.heap.size:=by obtain⟨cs,k⟩:= k4;exact k.lt
    have c2:d.cell? ⟨g,2,none⟩=some (.int .i64 ((x0+1+i:Nat):Int)):=by rw[b.cell (p:=⟨g,2,none⟩) glt];exact p1
    have z:∃ cs,Blk d g cs 152:=by obtain⟨cs,k⟩:= k4;exact⟨cs,k.keep b⟩
    have f2:d.frozen? ⟨g,2,none⟩=false:=by obtain⟨cs,k⟩:= z;exact k.free 2
    have cs2:=(k2.keep b).cell (i:=0) rfl;have O:=kF (g:=g) c2 f2 (by omega) (by omega);have u:=(y.keep b).chg (dU g (x0+1+i) d) (by omega);have yb:=u.cell (i:=0) rfl;have v:=zg (x:=x0+1+i) j z;rw[← fi g (x0+1+i) V2] at v;have hYY:=HY.out i _ _ _ f (p3 f) (by rw[fi];omega) (uf (x:=x0+1+i) b) v;obtain⟨fn,tmps,assign,body,hy,hR⟩:= hYY
    have Q:RoundIn (Fence.wide.inRound l2) 0 Tryz.prog l fn tmps assign body (tick g d (x0+1+i)) _:=⟨hR.1,fun c cs _=>hR.2 c cs (fun _ h=>by cases h)⟩
    have N:aZ Tp Wt.heap.size d (tick g d (x0+1+i)):=⟨by rw[fi];exact Nat.le_refl _,fun k o hk Y _=>((dU g (x0+1+i) d).same k (lt_of_block Y) (by omega)).trans Y⟩;have HK:=ax N;have HYW:=ax u;have HR:=ax Q;replace m:=ax m;replace U:=ax U
    have hWs:W.heap.size+1≤d.heap.size:=Nat.le_trans P b.size;have tsz2:=ax (fi g (x0+1+i) d);clear hJi M hv0 hb I j v hR Q N u p1 p2 p3 k1 k2 k3 k4 z c2 f2 y b L tsz;gi_wp2_with (refine⟨trivial,rfl,?_⟩;gi_at_call 70;refine(CallsIn.inRound l2 (callsIn_wide.2 O)).mono ?_;rintro e' w3 ⟨rfl,hw3⟩;obtain rfl:w3=tick g d (x0+1+i):=hw3;clear O cs2);refine⟨rfl,HR.out.mono ?_⟩;rintro e' w5 ⟨S,h5⟩;have hY5:=S.blk HYW.out (Nat.le_refl _) hT
    have t:aZ Tp Wt.heap.size d w5:=HK.out.trans (S.mono (by omega))
    have q:W.heap.size+1≤w5.heap.size:=Nat.le_trans hWs t.size;rcases h5 with⟨rfl,hJ5⟩ | ⟨rfl,hJ5⟩
    · gi_wp2
      exact⟨t,hJ5,q,hY5⟩
    · gi_wp2
      exact⟨t,rfl,hJ5,q⟩
  · rintro D' W' hD hK ⟨hJn,D,y⟩
    gi_wp2;refine⟨by simp,.inl ⟨_,_,rfl,run_takeDeferred hK,?_⟩⟩;exact⟨_,results_none rfl _ _ _,⟨_,rfl⟩,by simp;omega,.inl (F _ _ _ hJn (Rec.put hK rfl (by omega) _))⟩
  · rintro D' c i W' hD hK f ⟨rfl,R,D⟩
    gi_wp2;refine⟨by simp,.inl ⟨_,_,rfl,run_takeDeferred hK,?_⟩⟩;exact⟨_,results_none rfl _ _ _,⟨_,rfl⟩,by simp;omega,.inr ⟨i,f,T (i+1) _ _ R (Rec.put hK rfl (by omega) _)⟩⟩
end
section
variable {I It:Nat->World->Prop}{Ix:Code->Nat->World->Prop}{W W' V w:World}{a:Act}{g:Operand}{lb:Array Value}{Ar:Nat→Array Value→Nat→World→Prop}{Rd:World→Prop}{ps:Array Tmp}
def pD(I It:Nat->World->Prop)(k:Nat):World->Prop:=if k % 2=0 then I (k / 2) else It (k / 2)
theorem jH(I It:Nat->World->Prop)(i:Nat):pD I It (2 * i+1)=It i:=by
 unfold pD;rw[if_neg (by omega),show (2 * i+1) / 2=i by omega]
theorem kX(I It:Nat->World->Prop)(i:Nat):pD I It (2 * i+1+1)=I (i+1):=by
 unfold pD;rw[if_pos (by omega),show (2 * i+1+1) / 2=i+1 by omega]
theorem oD{Tp:TypeId->Prop}{B:Nat}{i:Nat}{e:Exit}(h:oL Tp B I Ix (i+1) W e a W'):oL Tp B (pD I It) (fun c k=>Ix c (k / 2)) (2 * i+1+1) W e a W':=by
 have e2:(2 * i+1+1) / 2=i+1:=by omega
 cases e<;>simp only[oL] at h ⊢
 ·exact⟨h.1,by rw[kX];exact h.2⟩
 ·exact⟨h.1,by rw[e2];exact h.2⟩
 ·exact⟨h.1,by rw[e2];exact h.2⟩
 ·exact⟨h.1,by rw[e2];exact h.2⟩
def BS(Tp:TypeId->Prop)(w:World)(N n:Nat)(ps:Array Tmp)(assign body:Code)(tmps:Array Value)(Ar:Nat->Array Value->Nat->World->Prop)(It I:Nat->World->Prop)(Ix:Code->Nat->World->Prop):Prop :=
 ∀ (l i:Nat) (args:Array Value) (V W:World),w.heap.size<=l->l < V.heap.size->(∃ r,V.heap[l]?=some (.loop r))->i < N->It i V->Below V.heap.size V W->Ar i args V.heap.size W ->
  assign.wpIn (Fence.wide.inRound l) n Tryz.prog (Exit.then (fun a1 W1=>Below W.heap.size W W1/\∀ V2 W2,It i V2->Below V2.heap.size V2 W2->Ar i args V2.heap.size W2->(∀ b,b≠l->W2.heap[b]?=W1.heap[b]?)->W2.heap.size=W1.heap.size->V2.heap.size=V.heap.size->(∃ r,W2.heap[l]?=some (.loop r))->body.wpIn (Fence.wide.inRound l) n Tryz.prog (oL Tp w.heap.size I Ix (i+1) W2) a1 W2) (fun _ _ _=>False)) { tmps:=(ps.zip args).foldl (fun t (p,v)=>t.setIfInBounds p v) tmps,defers:=[] } W
theorem fA{g x k:Nat}(h:k≠g):(tick g V x).heap[k]?=V.heap[k]?:=Below.heap_setCell _ _ _ _ h
theorem oh{Tp:TypeId→Prop}{t N n g0 x0:Nat}(IT:ItrC Tp g0 x0 t lb N Ar Rd){assign body:Code}{Q:Exit→Act→World→Prop}(hg:a.eval g=.func (.func t) #[] lb)(eg:∀ args w,(callFunc t args).run Tryz.prog w=.ok (.enter t args) w)(C:∀ i args n V W,Ar i args n V→Cel V W→Ar i args n W)(Z:∀ i args n V,Ar i args n V→args.size=ps.size)(G:World→Prop)(I It:Nat→World→Prop)(Ix:Code→Nat→World→Prop)(A:St w.heap.size G)(U:∀ i,St w.heap.size (I i))(u:∀ i,St w.heap.size (It i))(o:∀ c i,St w.heap.size (Ix c i))(hgw:g0 < w.heap.size)(M:∀ V,G V→V.cell? ⟨g0,2,none⟩=some (.int .i64 x0)∧V.frozen? ⟨g0,2,none⟩=false∧Rd V∧I 0 (tick g0 V x0))(hx:∀ i V,I i V→V.cell? ⟨g0,2,none⟩=some (.int .i64 ((x0+1+i:Nat):Int))∧V.frozen? ⟨g0,2,none⟩=false∧Rd V∧(i < N→It i (tick g0 V (x0+1+i))))(h0:G w)(l:BS Tp w N n ps assign body a.tmps Ar It I Ix)(p:∀ D W,w.heap.size≤D→W.heap[D]?=some (.deferred (some []))→I N W→Q .normal { a with defers:={ target:=.collected D,args:=#[] } :: a.defers } W)(r:∀ D c i W,w.heap.size≤D→W.heap[D]?=some (.deferred (some []))→i < N→Ix c (i+1) W→c.wpIn Fence.wide n Tryz.prog Q { a with defers:={ target:=.collected D,args:=#[] } :: a.defers } W) :
    (Code.rangeFunc g ps assign body).wpIn Fence.wide n Tryz.prog Q a w:=by
  refine wpIn_rangeFunc ?_
  intro fn _;obtain⟨f,d⟩:∃ f,(w.alloc (.deferred (some []))).alloc (.loop (cX fn a.tmps ps assign body w.heap.size .ready none))=f:=⟨_,rfl⟩
  have J:Below w.heap.size w f:=by rw[← d];exact ae (aa w _) (aa _ _)
  have hs1:f.heap.size=w.heap.size+1+1:=by rw[← d];simp
  have R:f.heap[w.heap.size+1]?=some (.loop (cX fn a.tmps ps assign body w.heap.size .ready none)):=by
    rw[← d];have:=World.alloc_heap_new (w.alloc (.deferred (some []))) (.loop (cX fn a.tmps ps assign body w.heap.size .ready none));rwa [World.size_alloc] at this
  have O:f.heap[w.heap.size]?=some (.deferred (some [])):=by
    rw[← d];exact(Below.heap_alloc _ _ _ (by simp)).trans (World.alloc_heap_new w _)
  have t1:∀ V x,(tick g0 V x).heap[w.heap.size+1]?=V.heap[w.heap.size+1]?:=fun V x=>fA (by omega)
  have t2:∀ V x,(tick g0 V x).heap[w.heap.size]?=V.heap[w.heap.size]?:=fun V x=>fA (by omega)
  refine⟨w.heap.size + 1, [{ target := .collected w.heap.size, args := #[] }], f, { target := .fn (.func t) lb, args := #[.func (.yield (w.heap.size + 1)) #[] #[]] }, f, t,
    #[.func (.yield (w.heap.size+1)) #[] #[]] ++ lb,f,?_,?_,?_,?_,fun h=>(by cases h),?_⟩
  · rw[← d];exact run_enterLoop_outer _ _ _ _ _
  · simp only[resolve,hg]
    simp[go_sem]
  · intro f' _;trivial
  · simp[invoke,go_sem,eg]
  · refine callsIn_wide.2 ?_
    refine(IT (w.heap.size + 1)
      (fun W=>G W∧W.heap[w.heap.size+1]?=some (.loop (cX fn a.tmps ps assign body w.heap.size .ready none))∧W.heap[w.heap.size]?=some (.deferred (some [])))
      (fun i W=>I i W∧W.heap[w.heap.size+1]?=some (.loop (cX fn a.tmps ps assign body w.heap.size .ready none))∧W.heap[w.heap.size]?=some (.deferred (some [])))
      (fun i W=>It i W∧W.heap[w.heap.size+1]?=some (.loop (cX fn a.tmps ps assign body w.heap.size .ready none))∧W.heap[w.heap.size]?=some (.deferred (some [])))
      (fun i W=>∃ c,Ix c i W∧W.heap[w.heap.size+1]?=some (.loop (cX fn a.tmps ps assign body w.heap.size .done (some c)))∧W.heap[w.heap.size]?=some (.deferred (some [])))
      f (fun X Y hx b=>⟨A X Y hx.1 (b.mono (by omega)),b.same _ _ hx.2.1 (.inl (by omega)),b.same _ _ hx.2.2 (.inl (by omega))⟩)
      (fun i X Y hx b=>⟨U i X Y hx.1 (b.mono (by omega)),b.same _ _ hx.2.1 (.inl (by omega)),b.same _ _ hx.2.2 (.inl (by omega))⟩)
      (fun i X Y hx b=>⟨u i X Y hx.1 (b.mono (by omega)),b.same _ _ hx.2.1 (.inl (by omega)),b.same _ _ hx.2.2 (.inl (by omega))⟩)
      (fun i X Y hx b=>by obtain⟨c,T,H,L⟩:= hx;exact⟨c,o c i X Y T (b.mono (by omega)),b.same _ _ H (.inl (by omega)),b.same _ _ L (.inl (by omega))⟩)
      (by omega)
      (fun V hv=>by obtain⟨q1,E,s,F⟩:= M V hv.1;exact⟨q1,E,s,F,(t1 V x0).trans hv.2.1,(t2 V x0).trans hv.2.2⟩)
      (fun i V hv=>by obtain⟨q1,E,s,F⟩:= hx i V hv.1;exact⟨q1,E,s,fun hi=>⟨F hi,(t1 V _).trans hv.2.1,(t2 V _).trans hv.2.2⟩⟩)
      ?_ ⟨A _ _ h0 (Rec.of J),R,O⟩).mono ?_
    · rintro i args V V' q ⟨hi,m,hk⟩ K hb S
      have b:=l _ i args V V' (by omega) (lt_of_block m) ⟨_,m⟩ q hi hb S;refine(jd (Tp:=Tp) (B:=w.heap.size) (i:=2 * i+1) (I:=pD I It) (Ix:=fun c k=>Ix c (k / 2)) (Ar:=fun k=>Ar (k / 2)) (fun j=>C (j / 2)) (fun j=>by unfold pD;split;exact U _;exact u _) (fun c j=>o c _) (by omega) m (by rw[jH];exact hi) hb (by rw[show (2 * i+1) / 2=i by omega];exact S) (Z _ _ _ _ S) (wpIn_mono b ?_)).mono ?_
      · intro e a1 f h
        cases e <;> first
          | (refine⟨h.1, fun V2 W2 q1 E s F q5 q6 q7 => ?_⟩
             rw[jH] at q1;rw[show (2 * i+1) / 2=i by omega] at s
             exact wpIn_mono (h.2 V2 W2 q1 E s F q5 q6 q7) (fun e a W h=>oD h))
          | exact h.elim
      · rintro e V'' ⟨y,h⟩
        have z:=y.same _ _ (Nat.le_refl _) (by omega) ((hb.block _ (lt_of_block hk)).trans hk) mo;refine⟨y.from (by omega) (by omega),h.imp (fun h=>⟨h.1,by have:=h.2.1;rw[kX] at this;exact this,h.2.2,z⟩) (fun h=>?_)⟩;obtain⟨T,c,H,L⟩:= h;rw[show (2 * i+1+1) / 2=i+1 by omega] at H;exact⟨T,c,H,L,z⟩
    · rintro e W2 ⟨⟨v,rfl⟩,K,⟨hi,m,hk⟩ | ⟨i,q,c,hi,m,hk⟩⟩
      · exact⟨none,_,run_endLoop (P:=Tryz.prog) m (by simp[cX]),p _ _ (Nat.le_refl _) ((World.putObj_heap_other (by omega)).trans hk) (U _ _ _ hi (Rec.put m rfl (by omega) _))⟩
      · exact⟨some c,_,run_endLoop (P:=Tryz.prog) m (by simp[cX]),r _ c i _ (Nat.le_refl _) ((World.putObj_heap_other (by omega)).trans hk) q (o c _ _ _ hi (Rec.put m rfl (by omega) _))⟩
end
section
variable {w w' A A':World}{B n c g:Nat}{v u r:Value}{l a Q b:List Int}{x y:Int}{D:Nat->Prop}{ao:Option Addr}{Rd:World->Prop}{cs:List Value}{ops:Array Oper}{rest:List Oper}{pos:String}
theorem uJ{p:Nat}(h:OB w (B <= ·) v l)(d:B<=w.heap.size)(s:l.length<=1000000000)(hx:0<=x/\x < 256)(hp:w.cell? ⟨p,0,none⟩=some (.int .u8 x)) :
  ∃ v' w',(Builtin.append_ #[29,29] 29 #[v,.slice (some ⟨p,0,none⟩) 1 1]).run Tryz.prog w=.ok v' w'/\OB w' (B <= ·) v' (l ++ [x])/\Below B w w':=by
 have o:Oct (l ++ [x]):=fun y hy=>by
  rcases List.mem_append.1 hy with hy | hy
  ·exact h.oct y hy
  ·simp at hy;subst hy;exact hx
 have a:∀ j u,[Value.int .u8 x][j]? = some u->w.cell? ((⟨p,0,none⟩:Addr).add j)=some u:=fun j u m=>by
  match j with
  | 0=>simp at m;subst m;exact hp
  | j+1=>simp at m
 rcases h.ex with⟨rfl,rfl⟩ | ⟨b,c,rfl,hl2,n⟩
 ·obtain⟨f,w',i,n,hw⟩:=gz (w:=w) KB 29 ⟨p,0,none⟩ 1 1 [.int .u8 x] rfl a (by decide) (by decide) (by decide);exact⟨_,w',i,⟨o,.inr ⟨_,f,rfl,d,n⟩⟩,hw.mono d⟩
 ·obtain⟨q,f,w',i,k,g,hw⟩:=dM (w:=w) KB 29 n ⟨p,0,none⟩ 1 1 [.int .u8 x] rfl a (by simp[Value.oneCell']) (by omega) (by omega);refine⟨_,w',i,⟨o,.inr ⟨q,f,by simp,?_,by rw[List.map_append,List.length_append]; exact g⟩⟩,hw.below (fun x e=>by have r:x=b:=e; omega) d⟩;rcases k with rfl | rfl
  ·exact hl2
  ·exact d
theorem eG(h:OB w (B <= ·) v l)(d:B<=w.heap.size)(s:l.length<=1000000000)(hx:0<=x/\x < 256) :
  ∃ v' w',(Builtin.append_ #[29,29] 29 #[v,.slice (some ⟨w.heap.size,0,none⟩) 1 1]).run Tryz.prog (w.alloc (.cells #[.int .u8 x] 5))=.ok v' w'/\OB w' (B <= ·) v' (l ++ [x])/\Below B w w':=by
 have hb:=aa w (.cells #[.int .u8 x] 5);have hk:=aj w [.int .u8 x] 5
 have o:Oct (l ++ [x]):=fun y hy=>by
  rcases List.mem_append.1 hy with hy | hy
  ·exact h.oct y hy
  ·simp at hy;subst hy;exact hx
 have a:∀ j u,[Value.int .u8 x][j]? = some u->(w.alloc (.cells #[.int .u8 x] 5)).cell? ((⟨w.heap.size,0,none⟩:Addr).add j)=some u:=fun j u p=>by
  match j with
  | 0=>exact hk.cell (i:=0) p
  | j+1=>simp at p
 rcases h.ex with⟨rfl,rfl⟩ | ⟨b,c,rfl,hl2,n⟩
 ·obtain⟨f,w',k,n,hw⟩:=gz (w:=w.alloc (.cells #[.int .u8 x] 5)) KB 29 ⟨w.heap.size,0,none⟩ 1 1 [.int .u8 x] rfl a (by decide) (by decide) (by decide);exact⟨_,w',k,⟨o,.inr ⟨_,f,rfl,Nat.le_trans d hb.size,n⟩⟩,(hb.mono d).trans (hw.mono (Nat.le_trans d hb.size))⟩
 ·obtain⟨q,f,w',k,m,g,hw⟩:=dM (w:=w.alloc (.cells #[.int .u8 x] 5)) KB 29 (n.keep hb) ⟨w.heap.size,0,none⟩ 1 1 [.int .u8 x] rfl a (by simp[Value.oneCell']) (by omega) (by omega);refine⟨_,w',k,⟨o,.inr ⟨q,f,by simp,?_,by rw[List.map_append,List.length_append]; exact g⟩⟩,(hb.mono d).trans (hw.below (fun x e=>by have r:x=b:=e; omega) (Nat.le_trans d hb.size))⟩;rcases m with rfl | rfl
  ·exact hl2
  ·exact Nat.le_trans d hb.size
theorem OB.sh(h:OB w D v l):∃ ao c,v=.slice ao l.length c:=by
 rcases h.ex with⟨rfl,rfl⟩ | ⟨b,c,rfl,_⟩
 ·exact⟨none,0,rfl⟩
 ·exact⟨_,c,rfl⟩
theorem By.lens(h:By w (.slice ao n c) l):l.length=n/\n<=c/\c<=9223372036854775807:=by
 obtain⟨ao',c',e,h2,h3,_⟩:=h.ex
 cases e;exact⟨rfl,h2,h3⟩
theorem iy{a:Act}{o:Oper}{x y:Nat}{T ty:TypeId}(b:o.type=ty)(hr:(Builtin.append_ #[T,T] ty #[u,v]).run Tryz.prog w=.ok r w')(ho:o.op=.call { callee:=.builtin .append,args:=#[.tmp x,.tmp y],argTypes:=#[T,T] }:=by kernel_rfl)(hx:a.eval (.tmp x)=u:=by kernel_rfl)(hy:a.eval (.tmp y)=v:=by kernel_rfl) :
    (execOp a.eval o).run Tryz.prog w=.ok (.value r) w':=by
  subst b;unfold execOp;simp only[ho,resolve,invoke,builtin,Sem.run_bind,Sem.run_pure,Result.andThen_ok,List.map_toArray,List.map_cons,List.map_nil,hx,hy,hr]
theorem uA(w:World)(D:Nat->Prop):OB w D (.slice none 0 0) []:=⟨fun _ h=>by simp at h,.inl ⟨rfl,rfl⟩⟩
def ArBB(Q:List Int)(i:Nat)(args:Array Value)(_:Nat)(_:World):Prop:=∃ p j,j+1+i=Q.length/\Q[j]?=some p/\args=#[.int .i64 (j:Int),.int .u8 p]
theorem xm{Tp:TypeId->Prop}{bs:Nat}(hn:Q.length=n)(C:n<=1000000000)(hb:∀ V,Rd V->V.cell? ⟨bs,0,none⟩=some (.slice ao n c)/\∀ j p,Q[j]?=some p->∃ b o,ao=some ⟨b,o,none⟩/\V.cell? ⟨b,o+j,none⟩=some (.int .u8 p)) :
  Itr Tp 351 #[.pointer (some ⟨bs,0,none⟩)] n (ArBB Q) Rd:=by
 intro l J K W L F r E z;have A:=(hb W (r 0 W z)).1
 have hb:Hid _:=hb
 have hn:Hid _:=hn
 have P:IntKind.i64.wrap ((n:Int) - 1)=(n:Int) - 1:=by rw[IntKind.wrap_i64];omega
 refine(callsIn_wide (n:=0)).1 ?_
 refine callsIn_of_wp Tryz.func351 rfl trivial ?_ rfl;simp only[Tryz.ntmps351,List.size_toArray,List.length_cons,List.length_nil,Nat.reduceAdd,Nat.reduceSub,Array.replicate_succ,Array.replicate_zero,List.push_toArray,List.append_toArray,List.nil_append,List.cons_append];gi_wp2;gi_loopw [3] (fun y wr=>∃ i:Nat,i<=n/\y=.int .i64 ((n:Int) - 1 - (i:Int))/\W.heap.size<=wr.heap.size/\J i wr) (fun y _=>(intOf y+1).toNat)
 case atStart=>exact⟨0,Nat.zero_le _,by simp,Nat.le_refl _,z⟩
 case round =>
  clear A;obtain⟨i,hi,rfl,d,f⟩:=hrel;obtain⟨A,m⟩:=hb.out wr (r _ _ f);by_cases q:i < n
  ·obtain⟨j,v⟩:∃ j,j+1+i=n:=⟨n - 1 - i,by omega⟩
   obtain⟨p,B⟩:∃ p,Q[j]?=some p:=⟨Q[j]'(by have:=hn.out;omega),List.getElem?_eq_getElem _⟩
   obtain⟨b,o,rfl,I⟩:=m j p B
   have s:(n:Int) - 1 - (i:Int)=(j:Int):=by omega
   have H:Hid (j+1+i=n):=v;have x:=E i _ wr wr q f d (Below.refl _ _) ⟨p,j,by rw[hn.out];exact v,B,rfl⟩;obtain⟨fn,tmps,assign,body,hy,G⟩:=x;rw[s]
   have M:IntKind.i64.wrap ((j:Int) - 1)=(j:Int) - 1:=by rw[IntKind.wrap_i64];omega
   have z1:(j:Int) < n:=by omega
   clear m s v;gi_wp2;refine⟨rfl,G.mono ?_⟩;rintro N O ⟨u,⟨rfl,g⟩ | ⟨rfl,g⟩⟩
   ·gi_wp2;go_roundw
    case rel=>exact⟨i+1,by omega,by have:=H.out;congr 1;omega,Nat.le_trans d u.size,g⟩
    case measure=>simp[intOf]
   ·gi_wp2;refine bodyPost_ret (results_none rfl _ _ _) rfl ?_
    exact⟨⟨_,rfl⟩,Nat.le_trans d u.size,.inr ⟨i,q,g⟩⟩
  ·have t:i=n:=by omega
   have s:(n:Int) - 1 - (i:Int)=-1:=by omega
   rw[s]
   have D:Hid (J n wr):=by show J n wr;rw[<- t];exact f
   clear m s t f;gi_wp2;go_end0;exact⟨⟨_,rfl⟩,d,.inl D.out⟩
theorem AQ:Calls Tryz.prog 306 #[.slice ao n c] w fun e w'=>e=.returned (.func (.func 351) #[] #[.pointer (some ⟨w.heap.size,0,none⟩)])/\Blk w' w.heap.size [.slice ao n c] 29/\Below w.heap.size w w':=by
 go_enter Tryz.func306,Tryz.ntmps306;go_wp2;go_ret;exact⟨rfl,aj w _ _,aa w _⟩
def nxt(l:List Int):List Int:=match l.reverse.dropWhile (· == 255) with
 | []=>[]
 | x :: t=>t.reverse ++ [x+1]
theorem Cz:∀ {l:List Int},(∀ x∈l,x=255)->l.dropWhile (· == 255)=[]
 | [],_=>rfl
 | x :: l,h=>by
  have hx:=h x List.mem_cons_self;subst hx;rw[List.dropWhile_cons_of_pos (by decide)];exact Cz (fun y hy=>h y (List.mem_cons_of_mem _ hy))
theorem yR(A B:List Int)(hx:x≠255)(h:∀ b∈B,b=255):(A ++ x :: B).reverse.dropWhile (· == 255)=x :: A.reverse:=by
 rw[List.reverse_append,List.reverse_cons,List.append_assoc,List.dropWhile_append_of_pos (fun a c=>by simp[h a (List.mem_reverse.1 c)]),List.singleton_append,List.dropWhile_cons_of_neg (by simp[hx])]
theorem lP(h:∀ x∈l,x=255):nxt l=[]:=by
 have:l.reverse.dropWhile (· == 255)=[]:=by
  exact Cz (fun x hx=>h x (List.mem_reverse.1 hx))
 unfold nxt;rw[this]
theorem nxt_at{j:Nat}(f:l[j]?=some x)(hx:x≠255)(h:∀ i y,l[i]?=some y->j < i->y=255):nxt l=l.take j ++ [x+1]:=by
 have b:j < l.length:=(List.getElem?_eq_some_iff.1 f).1
 have e:l=l.take j ++ x :: l.drop (j+1):=by
  have d:=(List.take_append_drop j l).symm
  have g:l.drop j=x :: l.drop (j+1):=by
   rw[List.drop_eq_getElem_cons b];congr 1
   exact(List.getElem?_eq_some_iff.1 f).2
  rw[g] at d;exact d
 have k:l.reverse.dropWhile (· == 255)=x :: (l.take j).reverse:=by
  have c:=yR (l.take j) (l.drop (j + 1)) hx (fun a m=>by
   obtain⟨i,hi⟩:=List.getElem?_of_mem m;rw[List.getElem?_drop] at hi
   exact h (j+1+i) a hi (by omega))
  rw[<- e] at c;exact c
 unfold nxt;rw[k];simp
theorem iE{a c:Nat}{B:World}(h:Below a w A)(hr:Rec c A B)(d:a<=c)(hw:a<=A.heap.size):Below a w B :=
 ⟨hr.os.trans h.os,hr.tape.trans h.tape,hr.output.trans h.output,Nat.le_trans h.size hr.size,fun k hk=>by
  obtain⟨o,b⟩:∃ o,A.heap[k]?=some o:=⟨A.heap[k]'(by omega),Array.getElem?_eq_getElem _⟩
  rw[hr.same k o b (.inl (by omega)),<- b]
  exact h.block k hk⟩
theorem BF{ty:TypeId}(h:Blk A g cs ty)(hr:Rec B A A'):Blk A' g cs ty:=hr.blk h
theorem OB.rcd(h:OB A D v l)(hr:Rec B A A'):OB A' D v l:=by
 refine⟨h.oct,h.ex.imp id ?_⟩;rintro⟨b,c,e,hd,hR⟩;obtain⟨cs,k⟩:=hR.kind;exact⟨b,c,e,hd,hR.same ((hr.blk k).blk.trans k.blk.symm)⟩
theorem By.take(h:By w (.slice ao n c) l)(j:Nat)(t:j<=n):By w (.slice ao j c) (l.take j):=by
 obtain⟨s,hc,hm⟩:=By.lens h;obtain⟨p,r,e,q,k,f,g,o⟩:=h.ex
 cases e
 have hlen:(l.take j).length=j:=by rw[List.length_take];omega
 refine⟨ao,c,by rw[hlen],by rw[hlen];omega,k,f,fun x hx=>g x (List.mem_of_mem_take hx),?_⟩;rcases o with rfl | ⟨d,m,e,b,a⟩
 ·exact .inl (by simp)
 ·exact .inr ⟨d,m,e,b,fun i x hi=>a i x (by
   rw[List.getElem?_take] at hi;split at hi
   ·exact hi
   ·cases hi)⟩
theorem FC{o:Nat}(c:w.cell? ⟨g,o,none⟩=some v):(loadVar 29 ⟨g,o,none⟩).run Tryz.prog w=.ok v w:=by go_simp
theorem DP{F:Fence}{Q:Exit->Act->World->Prop}{after:Array Edge}{a:Act}(hF:∀ f,F.fn f)(hu:a.eval (.tmp 14)=u)(hv:a.eval (.tmp 17)=v)(hr:(Builtin.append_ #[29,29] 29 #[u,v]).run Tryz.prog w=.ok r w')(h:wpListIn F n Tryz.prog ops Q rest (a.put (some 18) r) w') :
  wpListIn F n Tryz.prog ops Q ({ dst:=some 18,op:=.call { callee:=.builtin .append,args:=#[.tmp 14,.tmp 17],argTypes:=#[29,29] },type:=29,pos:=pos,after:=after,guard:=none } :: rest) a w :=
 qE rfl hF (Oper.semAt_eq _ _ _ (fun c h=>by cases h)) (iy (x:=14) (y:=17) rfl hr (ho:=rfl) (hx:=hu) (hy:=hv)) h
theorem AY(h:By w (.slice ao n c) l)(U:n≤1000000000) :
    Calls Tryz.prog 245 #[.slice ao n c] w fun e w'=>∃ v,e=.returned v∧OB w' (w.heap.size≤·) v (nxt l)∧Below w.heap.size w w':=by
  obtain⟨hl,hnc,hcm⟩:= By.lens h;have c1:=aj w [.slice ao n c] 29;have b1:=aa w (.cells #[.slice ao n c] 29)
  have s1:(w.alloc (.cells #[.slice ao n c] 29)).heap.size=w.heap.size+1:=by simp
  have c2:=aj (w.alloc (.cells #[.slice ao n c] 29)) [.slice none 0 0] 29;have b2:=aa (w.alloc (.cells #[.slice ao n c] 29)) (.cells #[.slice none 0 0] 29)
  have s2:((w.alloc (.cells #[.slice ao n c] 29)).alloc (.cells #[.slice none 0 0] 29)).heap.size=w.heap.size+2:=by simp
  rw[s1] at c2
  have R:=c1.keep b2;have X:=ae b1 b2;obtain⟨Wa,J⟩:∃ Wa,Hid ((w.alloc (.cells #[.slice ao n c] 29)).alloc (.cells #[.slice none 0 0] 29)=Wa):=⟨_,rfl⟩;rw[J.out] at R c2 s2 X;have HB:=ax h;clear h c1 b1 b2 s1;refine(callsIn_wide (n:=0)).1 ?_
  refine callsIn_of_wp_marks Tryz.func245 rfl trivial ?_ rfl;simp only[Tryz.ntmps245,List.size_toArray,List.length_cons,List.length_nil,Nat.reduceAdd,Nat.reduceSub,Array.replicate_succ,Array.replicate_zero,List.push_toArray,List.append_toArray,List.nil_append,List.cons_append];gi_wp2_with (refine⟨trivial,rfl,?_⟩;gi_at_call 306;rw[J.out];refine(callsIn_wide.2 AQ).mono ?_;rintro e' z ⟨rfl,O,t⟩);rw[s2] at O;have k1:=R.keep t;have k2:=c2.keep t;have q:=ae X t;have hs2:=t.size;have IT:=xm (Tp:=fun _=>False) (bs:=w.heap.size+2) (c:=c) (ao:=ao) (Q:=l) (n:=n) (Rd:=fun V=>Below z.heap.size z V) hl U (fun V hv=>⟨(O.keep hv).cell (i:=0) rfl,fun j p D=>By.at ((HB.out.keep q).keep hv) D⟩);refine ke IT (by rfl) (enters_of Tryz.func351 (by kernel_rfl) rfl) (fun i args n V V' h _=>h) (fun i args n V h=>by obtain⟨p,j,_,_,rfl⟩:= h;rfl)
    (fun i V=>Below z.heap.size z V∧∀ j x,l[j]?=some x→n≤j+i→x=255)
    (fun c i V=>c=.ret∧∃ v,Blk V (w.heap.size+1) [v] 29∧OB V (w.heap.size≤·) v (nxt l)∧Below w.heap.size w V)
    (fun i A B hx T=>⟨iE hx.1 T (Nat.le_refl _) hx.1.size,hx.2⟩)
    (fun c i A B hx T=>⟨hx.1,by obtain⟨v,h1,h2,I⟩:= hx.2;exact⟨v,T.blk h1,OB.rcd h2 T,iE I T q.size I.size⟩⟩)
    (fun i V hv=>hv.1) ⟨Below.refl _ _,fun j x D hn=>by have:=(List.getElem?_eq_some_iff.1 D).1;omega⟩ ?_ ?_ ?_
  · rintro l2 i args V Wv hl2 hlV hrec hiN ⟨hBV,m⟩ hb ⟨p,j,D,hp,rfl⟩
    simp;gi_wp2;refine⟨Below.refl _ _,?_⟩;intro V2 W2 u f hb2 L K hsz3 hV2 r hrec2;have d:=u.trans (hb2.mono u.size);have kb:=(k1.keep d).cell (i:=0) rfl;have G:=k2.keep d
    have hpo:0≤p∧p < 256:=HB.out.oct p (List.mem_of_getElem? hp);clear m hb hBV K L;by_cases S:p=255
    · subst S
      gi_wp2;refine⟨aZ.of (Below.refl _ _),d,fun j2 x hx hn=>?_⟩;by_cases e:j2=j
      · subst e;rw[hp] at hx;cases hx;rfl
      · exact f j2 x hx (by omega)
    · have hp6 : p < 255 := by omega
      have BY:=By.take ((HB.out.keep q).keep d) j (by omega)
      have H:(l.take j).length=j:=by rw[List.length_take];omega
      have hjn:(j:Int)≤c:=by omega
      have w9:IntKind.u8.wrap (p+1)=p+1:=by rw[IntKind.wrap_u8];omega
      have P:=ax G;have HW:=ax d
      have HNX:Hid (nxt l=l.take j ++ [p+1]):=nxt_at hp S (fun i2 y hy hi=>f i2 y hy (by omega));clear G d f
      gi_wp2_with (first
        | (have gate:=s;clear gate;refine DP (fun _=>trivial) rfl rfl s ?_;clear s)
        | (refine⟨trivial,rfl,?_⟩;gi_at_call 104;refine(CallsIn.inRound l2 (callsIn_wide.2 (cT BY (by omega)))).mono ?_;rintro e' w5 ⟨v5,rfl,O5,b5⟩;obtain⟨v6,F,s,O6,b6⟩:= eG (B:=W2.heap.size) (x:=p+1) O5 b5.size (by omega) (by omega);have C:=(P.out.keep b5).mI b6 (P.out.lt);have kc:=C.cell (i:=0) rfl;have kfr:=C.free 0;obtain⟨a5,c5,rfl⟩:= OB.sh O5;obtain⟨a6,c6,rfl⟩:= OB.sh O6;rw[H] at s ⊢))
      have hlt:w.heap.size+1 < z.heap.size:=k2.lt;have hsW:=HW.out.size;have N:=b5.trans b6
      have O7:OB F (W2.heap.size≤·) (.slice a6 (j+1) c6) (l.take j ++ [p+1]):=by
        have W:=O6;rw[show (l.take j ++ [p+1]).length=j+1 by rw[List.length_append,H];rfl] at W;exact W
      have O8:OB (F.setCell ⟨w.heap.size+1,0,none⟩ (.slice a6 (j+1) c6)) (W2.heap.size≤·) (.slice a6 (j+1) c6) (l.take j ++ [p+1]):=O7.same (fun b _ hb=>Below.heap_setCell F _ _ b (by show b≠w.heap.size+1;omega))
      have B6:Below w.heap.size w F:=(q.trans (HW.out.mono q.size)).trans (N.mono (Nat.le_trans q.size hsW));refine⟨(aZ.of N).trans ⟨?_,fun k o hk h0 _=>(Below.heap_setCell F _ _ k (by show k≠w.heap.size+1;omega)).trans h0⟩,rfl,_,C.setCell (i:=0) _,?_,B6.setCell (show w.heap.size≤w.heap.size+1 by omega) _⟩
      · exact((Chg.refl (fun x=>x=w.heap.size+1) F).cell (g:=w.heap.size+1) (i:=0) (.inl rfl) _).size
      · rw[HNX.out]
        exact O8.mono (fun b _ hb=>by have:=q.size;omega)
  · rintro D' Y hD Z ⟨d,m⟩
    have G:=k2.keep d;have kc:=G.cell (i:=0) rfl;have kf:=G.free 0
    have hlt:w.heap.size+1 < z.heap.size:=k2.lt
    have M:(Y.setCell ⟨w.heap.size+1,0,none⟩ (.slice none 0 0)).heap[D']?=some (.deferred (some [])):=(Below.heap_setCell Y _ _ D' (by show D'≠w.heap.size+1;omega)).trans Z;gi_wp2;refine⟨by simp,.inl ⟨_,_,rfl,run_takeDeferred M,?_⟩⟩;have E:=Rec.put (B:=z.heap.size) M rfl hD (.deferred none);have k3:=BF (G.setCell (i:=0) (.slice none 0 0)) E;refine⟨_,kP rfl rfl (FC (k3.cell (i:=0) rfl)),_,rfl,?_,?_⟩
    · rw[lP (fun x hx => by
        obtain⟨j,D⟩:= List.getElem?_of_mem hx
        exact m j x D (by omega))]
      exact uA _ _
    · have W:Below w.heap.size w (Y.setCell ⟨w.heap.size+1,0,none⟩ (.slice none 0 0)):=(q.trans (d.mono q.size)).setCell (show w.heap.size≤w.heap.size+1 by omega) _
      exact iE W E q.size W.size
  · rintro D' c i Y hD Z hiN ⟨rfl,v,h1,h2,I⟩
    gi_wp2;refine⟨by simp,.inl ⟨_,_,rfl,run_takeDeferred Z,?_⟩⟩;have E:=Rec.put (B:=z.heap.size) Z rfl hD (.deferred none);have k3:=BF h1 E;exact⟨_,kP rfl rfl (FC (k3.cell (i:=0) rfl)),_,rfl,OB.rcd h2 E,iE I E q.size I.size⟩
theorem eA:Lt (x :: a) (y :: b)<->x < y\/(x=y/\Lt a b):=by
 unfold Lt;rw[db];by_cases c:x < y
 ·simp[c]
 ·by_cases d:y < x
  ·rw[if_neg c,if_pos d];constructor
   ·intro h;exact absurd h (by decide)
   ·rintro(h | ⟨h,_⟩)<;>omega
  ·rw[if_neg c,if_neg d];have:x=y:=by omega
   simp[this]
theorem ib:Lt [] (y :: b):=by simp[Lt,db]
theorem not_lt_nil:¬ Lt a []:=by cases a<;>simp[Lt,db]
theorem Ae(s:List Int):Lt (s ++ a) (s ++ b)<->Lt a b:=by
 induction s with
 | nil=>exact Iff.rfl
 | cons x s ih=>rw[List.cons_append,List.cons_append,eA,ih];simp
theorem jz:∀ l:List Int,(∀ x∈l,x=255)\/∃ A x B,l=A ++ x :: B/\x≠255/\∀ b∈B,b=255
 | []=>.inl (fun _ h=>by simp at h)
 | y :: t=>by
  rcases jz t with h | ⟨A,x,B,rfl,hx,hB⟩
  ·by_cases hy:y=255
   ·exact .inl (fun x hx=>by
     rcases List.mem_cons.1 hx with rfl | hx
     ·exact hy
     ·exact h x hx)
   ·exact .inr ⟨[],y,t,rfl,hy,h⟩
  ·exact .inr ⟨y :: A,x,B,rfl,hx,hB⟩
theorem o5{A B:List Int}(hx:x≠255)(hB:∀ b∈B,b=255):nxt (A ++ x :: B)=A ++ [x+1]:=by
 unfold nxt;rw[yR A B hx hB];simp
theorem DU(h:nxt l=[]):∀ x∈l,x=255:=by
 rcases jz l with h1 | ⟨A,x,B,rfl,hx,hB⟩
 ·exact h1
 ·rw[o5 hx hB] at h;simp at h
theorem uL{c:List Int}(h:nxt l≠[])(hc:l <+: c):Lt c (nxt l):=by
 rcases jz l with a | ⟨A,x,B,rfl,hx,b⟩
 ·exact absurd (lP a) h
 ·obtain⟨t,rfl⟩:=hc;rw[o5 hx b,List.append_assoc,Ae,List.cons_append,eA];exact .inl (by omega)
theorem um:∀ {B t:List Int},(∀ b∈B,b=255)->Oct t->Lt t B\/B <+: t
 | [],_,_,_=>.inr (List.nil_prefix)
 | b :: B,[],_,_=>.inl ib
 | b :: B,z :: t,hB,ht=>by
  have hb:=hB b List.mem_cons_self;have c:=ht z List.mem_cons_self;subst hb;by_cases h:z=255
  ·subst h;rcases um (fun b hb=>hB b (List.mem_cons_of_mem _ hb)) (fun y hy=>ht y (List.mem_cons_of_mem _ hy)) with a | a
   ·exact .inl (eA.2 (.inr ⟨rfl,a⟩))
   ·exact .inr (List.cons_prefix_cons.2 ⟨rfl,a⟩)
  ·exact .inl (eA.2 (.inl (by omega)))
theorem ox:∀ {A B c:List Int} {x:Int},(∀ b∈B,b=255)->Oct c->Lt c (A ++ [x+1])->Lt c (A ++ x :: B)\/(A ++ x :: B) <+: c
 | [],B,[],x,_,_,_=>.inl ib
 | [],B,y :: t,x,hB,hc,h=>by
  rw[List.nil_append,eA] at h;rw[List.nil_append];rcases h with h | ⟨_,h⟩
  ·by_cases e:y=x
   ·subst e;rcases um hB (fun z hz=>hc z (List.mem_cons_of_mem _ hz)) with h1 | h1
    ·exact .inl (eA.2 (.inr ⟨rfl,h1⟩))
    ·exact .inr (List.cons_prefix_cons.2 ⟨rfl,h1⟩)
   ·exact .inl (eA.2 (.inl (by omega)))
  ·exact absurd h not_lt_nil
 | a :: A,B,[],x,_,_,_=>.inl ib
 | a :: A,B,y :: t,x,hB,hc,h=>by
  rw[List.cons_append,eA] at h;rw[List.cons_append];rcases h with h | ⟨h1,h2⟩
  ·exact .inl (eA.2 (.inl h))
  ·subst h1;rcases ox hB (fun z hz=>hc z (List.mem_cons_of_mem _ hz)) h2 with h3 | h3
   ·exact .inl (eA.2 (.inr ⟨rfl,h3⟩))
   ·exact .inr (List.cons_prefix_cons.2 ⟨rfl,h3⟩)
theorem uS{c:List Int}(hc:Oct c)(h1:¬ l <+: c)(d:¬ Lt c l):¬ Lt c (nxt l):=by
 rcases jz l with e | ⟨A,x,B,rfl,hx,b⟩
 ·rw[lP e];exact not_lt_nil
 ·rw[o5 hx b];intro h;rcases ox b hc h with a | a
  ·exact d a
  ·exact h1 a
end
section
variable {w:World}{pg:Option Addr}{lb:Array Value}{K D:Nat->Prop}{W:List aA}{p:List Int}
theorem uo{k:Nat}:Calls Tryz.prog 243 #[.pointer pg,.func (.func k) #[] lb] w fun e w'=>e=.returned (.func (.func 303) #[] #[.pointer (some ⟨w.heap.size,0,none⟩),.pointer (some ⟨w.heap.size + 1,0,none⟩)])/\Blk w' w.heap.size [.pointer pg] 46/\Blk w' (w.heap.size + 1) [.func (.func k) #[] lb] 291/\Below w.heap.size w w':=by
 have b1:=aa w (.cells #[.pointer pg] 46);have c1:=aj w [.pointer pg] 46;have b:=aa (w.alloc (.cells #[.pointer pg] 46)) (.cells #[.func (.func k) #[] lb] 291);have c2:=aj (w.alloc (.cells #[.pointer pg] 46)) [.func (.func k) #[] lb] 291
 have s1:(w.alloc (.cells #[.pointer pg] 46)).heap.size=w.heap.size+1:=by simp
 rw[s1] at c2;go_enter Tryz.func243,Tryz.ntmps243;go_wp2;go_ret;exact⟨rfl,c1.keep b,c2,ae b1 b⟩
theorem SA.oct{g n N:Nat}{E:aA}(h:SA w K D g E W n N):∀ x∈E,Oct x.1:=by
 obtain⟨F,V,m,Q,d,T,i,hX,rfl,f⟩:=h.open;obtain⟨L,rfl,A,O,S,k,r⟩:=hX.map.ex;intro x hx;rw[da] at hx;obtain⟨e,he,rfl⟩:=List.mem_map.1 hx;obtain⟨es,b,a⟩:=List.mem_flatten.1 he;obtain⟨p,c,rfl⟩:=List.mem_map.1 b;exact((A.cD p c).1.eK e a).k.oct
theorem sG{k:List Int}(h:p <+: k):¬ Lt k p:=by
 obtain⟨t,rfl⟩:=h;intro h;have:Lt (p ++ t) (p ++ []):=by simpa using h
 rw[Ae] at this;exact not_lt_nil this
theorem zf{x:KV}(hx:Oct x.1):yW p (nxt p) x=decide (p <+: x.1):=by
 unfold yW;by_cases h:p <+: x.1
 ·have a:=sG h;by_cases hn:nxt p=[]
  ·simp[h,a,hn]
  ·simp[h,a];exact .inr (uL hn h)
 ·by_cases a:Lt x.1 p
  ·simp[h,a]
  ·have hn:nxt p≠[]:=fun e=>by
    rcases um (DU e) hx with b | b
    ·exact a b
    ·exact h b
   simp[h,a,hn,uS hx h a]
end
end Kv
end
section
namespace Kv
open Go.RowKit Go.Lib Pg
section
variable {w:World}{K D:Nat->Prop}{v:Value}{l:List Int}{W:List aA}
structure ByU(w:World)(v:Value)(l:List Int):Prop where
 byt:By w v l
 u8:∀ b o n c,v=.slice (some ⟨b,o,none⟩) n c->∃ cs m,w.heap[b]?=some (.cells cs 5 m)
theorem ByU.chg{w':World}(h:ByU w v l)(hc:Chg K w w')(hk:∀ b,K b->∃ cs t,Blk w b cs t/\t≠5):ByU w' v l:=by
 have g:∀ b o n c,v=.slice (some ⟨b,o,none⟩) n c->w'.heap[b]? = w.heap[b]? := fun b o n c e=>by
  obtain⟨cs,m,hb⟩:=h.u8 b o n c e;refine hc.same b (lt_of_block hb) fun s=>?_
  obtain⟨A,t,j,p⟩:=hk b s;have:=j.blk.symm.trans hb;simp at this;exact p this.2.1
 refine⟨?_,fun b o n c e=>by rw[g b o n c e];exact h.u8 b o n c e⟩;obtain⟨q,c,f,k,y,r,u,z⟩:=h.byt.ex;refine⟨q,c,f,k,y,r,u,z.imp id ?_⟩;rintro⟨b,o,rfl,d,a⟩;exact⟨b,o,rfl,Nat.lt_of_lt_of_le d hc.size,fun i x hi=>by rw[World.cell?_of_block (w:=w) (g b o _ _ f)];exact a i x hi⟩
theorem ByU.of(h:OB w D v l):ByU w v l:=by
 refine⟨h.by,fun b o n c e=>?_⟩;rcases h.ex with⟨rfl,_⟩ | ⟨b',c',rfl,_,hR⟩
 ·cases e
 ·cases e;obtain⟨cs,k⟩:=hR.kind;exact⟨_,_,k.blk⟩
theorem SA.kind{g n N:Nat}{E:aA}(h:SA w K D g E W n N):∀ b,K b->∃ cs t,Blk w b cs t/\t≠5:=by
 obtain⟨F,V,m,Q,jv,T,oj,_,_,_,_,_,_,_,O⟩:=h.ex;exact O.kind
end
end Kv
end
end Go.Proofs.YtpoifdokmjhclaaGreat
