/- Several texts, joined: PwG, PwH, PwJ. -/
import Derived.Test.YtflenlpabmehoaaGreatJam
import Derived.Test.YtflenlpabmehoaaGreatJan
import Derived.Test.YtflenlpabmehoaaGreatJao
import Derived.Test.YtflenlpabmehoaaGreatJag
namespace Go.Proofs.YtflenlpabmehoaaGreat
namespace Pw
open Go.RowKit Go.Lib Pg Lim Gl Kv Bk
theorem RS.min {w:World} {z X:Nat->Prop} {q n:Nat} {E:Ents} (h:RS w z X q E [] n):∃ X',RS w z X' q E [] n/\(∀ b,X' b->X b)/\∀ b,X' b->∃ cs t,Blk w b cs t/\t≠5:=by
 obtain ⟨lv,wv,hb,hl,hw⟩:=h.ex
 refine ⟨fun b=>X b/\∃ cs t,Blk w b cs t/\t≠5,⟨⟨lv,wv,hb,⟨hl.ex,fun b m c e=>⟨hl.blk b m c e,?_⟩⟩,⟨hw.ex.imp id ?_⟩⟩,⟨h.xq,_,_,hb,by decide⟩,fun b hx=>h.xz b hx.1,h.rise,h.small⟩,fun _ h=>h.1,fun _ h=>h.2⟩
 ·obtain ⟨es,P,_⟩:=hl.ex
  rcases P.ex with ⟨e',_⟩ | ⟨b',c',e',_,hR⟩
  ·rw [e'] at e; cases e
  ·rw [e'] at e
   cases e
   obtain ⟨cs,k⟩:=hR.kind
   exact ⟨cs,_,k,by decide⟩
 ·rintro ⟨b,c,vs,e,hx,hR,hv⟩
  obtain ⟨cs,k⟩:=hR.kind
  exact ⟨b,c,vs,e,⟨hx,cs,_,k,by decide⟩,hR,fun i v F h1 h2=>by simp at h2⟩
structure Rx (B:Nat) (w:World) (X:Nat->Prop) (q:Nat) (E:Ents) (n:Nat):Prop where
 rs:RS w (B <= ·) X q E [] n
 kind:∀ b,X b->∃ cs t,Blk w b cs t/\t≠5
 lo:B<=w.heap.size
structure RxE (B:Nat) (w:World) (X:Nat->Prop) (q:Nat) (E:Ents) (n:Nat) (r:Value) (e:Ending) (w':World):Prop where
 ret:e=.returned r
 ex:∃ X',Rx B w' X' q E n/\(∀ b,X' b->X b\/w.heap.size<=b)/\Chg X w w'
structure Ar (B:Nat) (w0:World) (X0:Nat->Prop) (w:World) (X:Nat->Prop) (q:Nat) (E:Ents) (n:Nat):Prop where
 rx:Rx B w X q E n
 xm:∀ b,X b->X0 b\/w0.heap.size<=b
 cc:Chg X0 w0 w
section
variable {B:Nat} {w0 w w':World} {X0 X X':Nat->Prop} {q:Nat} {E E':Ents} {n n':Nat}
theorem Rx.at (h:Rx B w X q E n):Ar B w X w X q E n:=⟨h,fun _ h=>.inl h,Chg.refl _ _⟩
theorem Rx.lt (h:Rx B w X q E n) {b:Nat} (hb:X b):b < w.heap.size:=(h.rs.xz b hb).2
theorem Rx.keep (h:Rx B w X q E n) (b:Below w.heap.size w w'):Rx B w' X q E n:=⟨h.rs.keep b,fun x hx=>by obtain ⟨cs,t,k,ht⟩:=h.kind x hx; exact ⟨cs,t,k.keep b,ht⟩,Nat.le_trans h.lo b.size⟩
theorem Rx.off {Y:Nat->Prop} (h:Rx B w X q E n) (C:Chg Y w w') (h1:∀ b,Y b->¬ X b) (h2:∀ b,Y b->∀ cs,¬ Blk w b cs 5):Rx B w' X q E n :=
 ⟨h.rs.chg C h1 h2,fun x hx=>by obtain ⟨cs,t,k,ht⟩:=h.kind x hx; exact ⟨cs,t,k.chg C (fun hy=>h1 x hy hx),ht⟩,Nat.le_trans h.lo C.size⟩
theorem Ar.keep (h:Ar B w0 X0 w X q E n) (b:Below w.heap.size w w'):Ar B w0 X0 w' X q E n:=⟨h.rx.keep b,h.xm,h.cc.trans (Chg.of (F:=fun _=>False) b) (fun _ _ h=>h.elim)⟩
theorem Ar.drew (h:Ar B w0 X0 w X q E n):Ar B w0 X0 w.drew X q E n:=h.keep (Below.refl _ _).drew
theorem Ar.size (h:Ar B w0 X0 w X q E n):w0.heap.size<=w.heap.size:=h.cc.size
theorem Ar.cell {x:Nat} {cs:List Value} {t:TypeId} (h:Ar B w0 X0 w X q E n) (Y:Blk w x cs t) (C:Chg (· = x) w w') (hx:w0.heap.size<=x) (hk:¬ X x) (ht:t≠5):Ar B w0 X0 w' X q E n :=
 ⟨h.rx.off C (fun b e hb=>hk ((show b=x from e)▸hb)) (fun b e cs' k=>by have e':b=x:=e; subst e'; exact ht (Y.eq k).2),h.xm,h.cc.trans C (fun b hb e=>by have e':b=x:=e; omega)⟩
theorem Ar.op (h:Ar B w0 X0 w X q E n) (hs:Rx B w' X' q E' n') (hK:∀ b,X' b->X b\/w.heap.size<=b) (hc:Chg X w w'):Ar B w0 X0 w' X' q E' n' :=
 ⟨hs,fun b hb=>(hK b hb).elim (h.xm b) (fun h2=>.inr (Nat.le_trans h.cc.size h2)),h.cc.trans hc (fun b hb hk=>(h.xm b hk).elim id (fun h2=>by omega))⟩
theorem Ar.new {x:Nat} (h:Ar B w0 X0 w X q E n) (hx:w.heap.size<=x):¬ X x:=fun hk=>by have:=h.rx.lt hk; omega
theorem Ar.byu {v:Value} {l:List Int} (h:Ar B w0 X0 w X q E n) (hv:ByU w v l) (C:Chg X w w'):ByU w' v l:=hv.chg C h.rx.kind
theorem Rx.made (h:Rx B w X q E n) (r:RS w' (B <= ·) X' q E' [] n') (hX:∀ b,X' b->X b\/w.heap.size<=b) (hs:w.heap.size<=w'.heap.size):∃ Y,Rx B w' Y q E' n'/\(∀ b,Y b->X b\/w.heap.size<=b):=by
 obtain ⟨Y,r',hY,hk⟩:=RS.min r
 exact ⟨Y,⟨r',hk,Nat.le_trans h.lo hs⟩,fun b hb=>hX b (hY b hb)⟩
theorem Rx.bq {v:Value} {l:List Int} (h:Rx B w X q E n) (hv:ByU w v l):BK w (· = q) v l:=fun _ hc=>(hv.chg hc (fun b e=>by
 have e':b=q:=e
 subst e'
 exact h.kind _ h.rs.xq)).byt
theorem Rx.bs {v:Value} {l:List Int} (h:Rx B w X q E n) (hv:ByU w v l) (x:Value):By (w.setCell ⟨q,2,none⟩ x) v l:=h.bq hv _ ((Chg.refl (fun y=>y=q) w).cell (.inl rfl) _)
theorem rxset {kv vv:Value} {k v:List Int} (h:Rx B w X q E n) (hk:ByU w kv k) (hv:ByU w vv v) (hn:n<=4000000000000000000) (hm:E.length<=1000000) (h0:setE k v=0) :
  Calls Tryz.prog 31 #[pg q,kv,vv] w (RxE B w X q (put E k v) (n + 1) (.int .i64 0)):=by
 refine (rset h.rs (fun b hb=>Nat.le_trans h.lo hb) hk.byt hv.byt (h.bs hk _) (h.bs hv _) hn hm).mono ?_
 rw [h0,if_pos rfl]
 rintro e w' ⟨rfl,X',R,hX,_,C⟩
 obtain ⟨Y,S,hY⟩:=h.made R hX C.size
 exact ⟨rfl,Y,S,hY,C.mono (fun b _ hb=>hb.1)⟩
theorem rxdel {kv:Value} {k:List Int} (h:Rx B w X q E n) (hk:ByU w kv k) (hkl:k.length<=1000000000) (hn:n<=4000000000000000000) (hm:E.length<=1000000) :
  Calls Tryz.prog 55 #[pg q,kv] w (RxE B w X q (rem E k) (n + 1) (.bool (Kv.look E k).isSome)):=by
 refine (rdel h.rs (fun b hb=>Nat.le_trans h.lo hb) hk.byt (h.bs hk _) hkl hn hm).mono ?_
 rintro e w' ⟨rfl,X',R,hX,_,C⟩
 obtain ⟨Y,S,hY⟩:=h.made R hX C.size
 exact ⟨rfl,Y,S,hY,C.mono (fun b _ hb=>hb.1)⟩
end
theorem rem_len (E:Ents) (k:List Int):(rem E k).length<=E.length:=List.length_filter_le _ _
theorem put_len (E:Ents) (k v:List Int):(put E k v).length<=E.length + 1:=by
 have key:∀ F:Ents,(F.filter (fun x=>decide (Lt x.1 k))).length + (F.filter (fun x=>decide (Lt k x.1))).length<=F.length:=by
  intro F
  induction F with
  | nil=>simp
  | cons x F ih =>
   by_cases a:Lt x.1 k
   ·rw [List.filter_cons_of_pos (by simpa using a),List.filter_cons_of_neg (by simpa using a.not)]
    simp only [List.length_cons]
    omega
   ·rw [List.filter_cons_of_neg (by simpa using a)]
    have:=List.length_filter_le (fun x:KV=>decide (Lt k x.1)) [x]
    by_cases b:Lt k x.1
    ·rw [List.filter_cons_of_pos (by simpa using b)]
     simp only [List.length_cons]
     omega
    ·rw [List.filter_cons_of_neg (by simpa using b)]
     simp only [List.length_cons]
     omega
 unfold put
 rw [List.length_append,List.length_cons]
 exact (by omega:∀ a b c:Nat,a + b<=c->a + (b + 1)<=c + 1) _ _ _ (key E)
end Pw
end Go.Proofs.YtflenlpabmehoaaGreat
namespace Go.Proofs.YtflenlpabmehoaaGreat
namespace Pw
open Go.RowKit Go.Lib Pg Lim Gl Kv Bk
attribute [local go_sem] Oper.semAt_some
set_option maxRecDepth 100000
set_option linter.unusedSimpArgs false
set_option linter.unusedVariables false
set_option maxHeartbeats 2000000
theorem rmk_key {w:World} {k a b:Int} (ha:0<=a/\a < 18446744073709551616) (hE:Ky.mkE k a b=false):Calls Tryz.prog 73 #[.agg #[.int .i64 k,.int .u64 a,.int .u64 b]] w fun e w'=>∃ v,e=.returned (.tuple #[v,.int .i64 0])/\ByU w' v (Ky.mk k a b)/\Below w.heap.size w w':=by
 have u:=Ky.rmake_any (w:=w) (k:=k) (b:=b) ha.1 ha.2
 rw [hE] at u
 refine u.mono ?_
 rintro e w' ⟨v,rfl,O,B⟩
 exact ⟨v,rfl,ByU.of O,B⟩
theorem key9 {w:World} {k a b:Int} (ha:0<=a/\a < 18446744073709551616) (hE:Ky.mkE k a b=false):Calls Tryz.prog 32 #[.int .i64 k,.int .u64 a,.int .u64 b] w fun e w'=>∃ v,e=.returned v/\ByU w' v (Ky.mk k a b)/\Below w.heap.size w w':=by
 have BB:=Below.refl w.heap.size w
 refine gc_enter (n:=18) Tryz.func32 rfl (by kernel_rfl) (by kernel_rfl) ?_
 refine gc_seq ?_
 refine gc_reg ?_
 refine t 6 (.slice none 0 0) ?_
 refine gl_nil ?_
 refine ge_then ?_
 refine gc_seq ?_
 refine gc_reg ?_
 refine t 10 (.int .i64 k) ?_
 refine t 11 (.int .u64 a) ?_
 refine t 12 (.int .u64 b) ?_
 refine t 13 (.agg #[.int .i64 k,.int .u64 a,.int .u64 b]) ?_
 refine tc 14 73 #[.agg #[.int .i64 k,.int .u64 a,.int .u64 b]] (rmk_key ha hE) ?_
 rintro _ v1 ⟨v0,rfl,U0,B⟩
 refine ⟨_,rfl,?_⟩
 replace BB:=joinB BB B
 clear B
 refine t 9 (.tuple #[v0,.int .i64 0]) ?_
 refine t 15 (v0) ?_
 refine t 16 (.int .i64 0) ?_
 refine t 7 (v0) ?_
 refine t 8 (.int .i64 0) ?_
 refine gl_nil ?_
 refine ge_then ?_
 refine gc_fr [(6,.slice none 0 0),(7,v0)] (by kernel_rfl) ?_
 refine gc_seq ?_
 refine gc_reg ?_
 refine t 17 (v0) ?_
 refine t 6 (v0) ?_
 refine gl_nil ?_
 refine ge_then ?_
 refine gc_ret ?_
 refine ge_ret (v0) (rs1 6 (by kernel_rfl) (by kernel_rfl)) ?_
 exact ⟨_,rfl,U0,BB⟩
theorem rput {B:Nat} {w:World} {X:Nat->Prop} {q:Nat} {E:Ents} {n:Nat} {v tk:Int} (h:Rx B w X q E n) (htk:0<=tk/\tk < 18446744073709551616) (hn:n + 2<=4000000000000000000) (hm:E.length + 1<=1000000):Calls Tryz.prog 12 #[pg q,.int .u64 v,.int .u64 tk] w (RxE B w X q (put E (Ky.mk 10 tk v) []) (n + 1) (.tuple #[])):=by
 have A:=h.at
 refine gc_enter (n:=11) Tryz.func12 rfl (by kernel_rfl) (by kernel_rfl) ?_
 refine gc_reg ?_
 refine t 6 (pg q) ?_
 refine t 7 (.int .u64 tk) ?_
 refine t 8 (.int .u64 v) ?_
 refine tc 9 32 #[.int .i64 10,.int .u64 tk,.int .u64 v] (key9 htk (mkE10 tk v)) ?_
 rintro _ v3 ⟨kv2,rfl,U1,B⟩
 refine ⟨_,rfl,?_⟩
 replace A:=A.keep B
 clear B
 refine tc 10 31 #[pg q,kv2,.slice none 0 0] (rxset A.rx U1 (byu_nil _) (by omega) (by omega) (set_mk (mkE10 tk v))) ?_
 rintro _ v5 ⟨rfl,K4,S,hK,hC⟩
 refine ⟨_,rfl,?_⟩
 replace U1:=A.byu U1 hC
 replace A:=A.op S hK hC
 clear S hK hC
 clear U1
 refine gl_nil ?_
 refine ge_end (.tuple #[]) (rs0 (by kernel_rfl)) ?_
 exact ⟨rfl,_,A.rx,A.xm,A.cc⟩
theorem rdrop {B:Nat} {w:World} {X:Nat->Prop} {q:Nat} {E:Ents} {n:Nat} {v tk:Int} (h:Rx B w X q E n) (htk:0<=tk/\tk < 18446744073709551616) (hn:n + 2<=4000000000000000000) (hm:E.length + 1<=1000000):Calls Tryz.prog 14 #[pg q,.int .u64 v,.int .u64 tk] w (RxE B w X q (rem E (Ky.mk 10 tk v)) (n + 1) (.tuple #[])):=by
 have A:=h.at
 refine gc_enter (n:=11) Tryz.func14 rfl (by kernel_rfl) (by kernel_rfl) ?_
 refine gc_reg ?_
 refine t 6 (pg q) ?_
 refine t 7 (.int .u64 tk) ?_
 refine t 8 (.int .u64 v) ?_
 refine tc 9 32 #[.int .i64 10,.int .u64 tk,.int .u64 v] (key9 htk (mkE10 tk v)) ?_
 rintro _ v3 ⟨kv2,rfl,U1,B⟩
 refine ⟨_,rfl,?_⟩
 replace A:=A.keep B
 clear B
 refine tc 10 55 #[pg q,kv2] (rxdel A.rx U1 (Nat.le_trans (Ky.mk_len _ _ _) (by decide)) (by omega) (by omega)) ?_
 rintro _ v5 ⟨rfl,K4,S,hK,hC⟩
 refine ⟨_,rfl,?_⟩
 replace U1:=A.byu U1 hC
 replace A:=A.op S hK hC
 clear S hK hC
 clear U1
 refine gl_nil ?_
 refine ge_end (.tuple #[]) (rs0 (by kernel_rfl)) ?_
 exact ⟨rfl,_,A.rx,A.xm,A.cc⟩
theorem rbond_on {B:Nat} {w:World} {X:Nat->Prop} {q:Nat} {E:Ents} {n:Nat} {v:Int} (h:Rx B w X q E n) (hv:0<=v/\v < 18446744073709551616) (hn:n + 2<=4000000000000000000) (hm:E.length + 1<=1000000):Calls Tryz.prog 16 #[pg q,.int .u64 v,.bool true] w (RxE B w X q (put E (Ky.mk 11 v 0) []) (n + 1) (.tuple #[])):=by
 have A:=h.at
 refine gc_enter (n:=16) Tryz.func16 rfl (by kernel_rfl) (by kernel_rfl) ?_
 refine gc_seq ?_
 refine gc_reg ?_
 refine t 7 (.int .u64 v) ?_
 refine tc 8 32 #[.int .i64 11,.int .u64 v,.int .u64 0] (key9 hv (mkE11 v)) ?_
 rintro _ v3 ⟨kv2,rfl,U1,B⟩
 refine ⟨_,rfl,?_⟩
 replace A:=A.keep B
 clear B
 refine t 6 (kv2) ?_
 refine gl_nil ?_
 refine ge_then ?_
 refine gc_seq ?_
 refine gc_reg ?_
 refine t 9 (.bool true) ?_
 refine gl_nil ?_
 refine ge_then ?_
 refine gc_yes ?_
 refine gc_reg ?_
 refine t 10 (pg q) ?_
 refine t 11 (kv2) ?_
 refine tc 12 31 #[pg q,kv2,.slice none 0 0] (rxset A.rx U1 (byu_nil _) (by omega) (by omega) (set_mk (mkE11 v))) ?_
 rintro _ v5 ⟨rfl,K4,S,hK,hC⟩
 refine ⟨_,rfl,?_⟩
 replace U1:=A.byu U1 hC
 replace A:=A.op S hK hC
 clear S hK hC
 clear U1
 refine gl_nil ?_
 refine ge_end (.tuple #[]) (rs0 (by kernel_rfl)) ?_
 exact ⟨rfl,_,A.rx,A.xm,A.cc⟩
theorem rbond_off {B:Nat} {w:World} {X:Nat->Prop} {q:Nat} {E:Ents} {n:Nat} {v:Int} (h:Rx B w X q E n) (hv:0<=v/\v < 18446744073709551616) (hn:n + 2<=4000000000000000000) (hm:E.length + 1<=1000000):Calls Tryz.prog 16 #[pg q,.int .u64 v,.bool false] w (RxE B w X q (rem E (Ky.mk 11 v 0)) (n + 1) (.tuple #[])):=by
 have A:=h.at
 refine gc_enter (n:=16) Tryz.func16 rfl (by kernel_rfl) (by kernel_rfl) ?_
 refine gc_seq ?_
 refine gc_reg ?_
 refine t 7 (.int .u64 v) ?_
 refine tc 8 32 #[.int .i64 11,.int .u64 v,.int .u64 0] (key9 hv (mkE11 v)) ?_
 rintro _ v3 ⟨kv2,rfl,U1,B⟩
 refine ⟨_,rfl,?_⟩
 replace A:=A.keep B
 clear B
 refine t 6 (kv2) ?_
 refine gl_nil ?_
 refine ge_then ?_
 refine gc_seq ?_
 refine gc_reg ?_
 refine t 9 (.bool false) ?_
 refine gl_nil ?_
 refine ge_then ?_
 refine gc_no ?_
 refine gc_reg ?_
 refine t 13 (pg q) ?_
 refine t 14 (kv2) ?_
 refine tc 15 55 #[pg q,kv2] (rxdel A.rx U1 (Nat.le_trans (Ky.mk_len _ _ _) (by decide)) (by omega) (by omega)) ?_
 rintro _ v5 ⟨rfl,K4,S,hK,hC⟩
 refine ⟨_,rfl,?_⟩
 replace U1:=A.byu U1 hC
 replace A:=A.op S hK hC
 clear S hK hC
 clear U1
 refine gl_nil ?_
 refine ge_end (.tuple #[]) (rs0 (by kernel_rfl)) ?_
 exact ⟨rfl,_,A.rx,A.xm,A.cc⟩
theorem byu1 {w:World} {g:Nat} {x:Int} (hx:0<=x/\x < 256) (X:Blk w g [.int .u8 x] 5):ByU w (sg 1 g) [x]:=by
 refine ⟨⟨_,1,rfl,Nat.le_refl _,by decide,fun e=>(by cases e),(fun y hy=>by simp at hy; subst hy; exact hx),.inr ⟨g,0,rfl,X.lt,fun i y hi => ?_⟩⟩,fun b o n c e=>by cases e; exact ⟨_,_,X.blk⟩⟩
 match i,hi with
 | 0,hi=>cases hi; exact X.cell (i:=0) rfl
structure PrfE (B:Nat) (w:World) (X:Nat->Prop) (q:Nat) (E:Ents) (n:Nat) (p:List Int) (e:Ending) (w':World):Prop where
 ex:∃ v es,e=.returned v/\Pq w' w.heap.size (B <= ·) v es/\es.map En.kl2=E.filter (fun x=>decide (p <+: x.1))/\∃ X' n',Rx B w' X' q E n'/\n'<=n + 1 + E.length/\(∀ b,X' b->X b\/w.heap.size<=b)/\Chg (· = q) w w'
section
variable {B:Nat} {w:World} {X:Nat->Prop} {q:Nat} {E:Ents} {n:Nat}
theorem rxprefix {pv:Value} {p:List Int} {m:Nat} (h:Rx B w X q E n) (hp:ByU w pv p) (hpl:p.length<=1000000000) (hn:n<=3000000000000000000) (hm:E.length<=m) (hmo:m<=1000000):Calls Tryz.prog 110 #[pg q,pv,.int .i64 (m:Nat)] w (PrfE B w X q E n p):=by
 refine (rprefix h.rs (h.bq hp) hpl hn (by omega) hmo).mono ?_
 rintro e w' ⟨v,es,rfl,P,he,R,C⟩
 have hl:(E.filter (fun x=>decide (p <+: x.1))).length<=E.length:=List.length_filter_le _ _
 have e2:(E.filter (fun x=>decide (p <+: x.1))).take m=E.filter (fun x=>decide (p <+: x.1)):=List.take_of_length_le (Nat.le_trans hl hm)
 rw [e2] at he R
 obtain ⟨Y,S,hY⟩:=h.made R (fun _ h=>.inl h) C.size
 exact ⟨v,es,rfl,P,he,Y,_,S,Nat.add_le_add_left hl _,hY,C⟩
theorem all9 {pv:Value} {p:List Int} (h:Rx B w X q E n) (hp:ByU w pv p) (hpl:p.length<=1000000000) (hn:n<=3000000000000000000) (hm:E.length<=1000000):Calls Tryz.prog 58 #[pg q,pv] w (PrfE B w X q E n p):=by
 obtain ⟨lv,wv,hb,hl,hw⟩:=h.rs.ex
 obtain ⟨es0,P0,he0⟩:=hl.ex
 obtain ⟨la,lc,rfl⟩:=P0.shape
 have hlen:es0.length=E.length:=by rw [<- he0,List.length_map]
 clear hl hw P0 he0
 obtain ⟨m,hm0⟩:∃ m,es0.length=m:=⟨_,rfl⟩
 rw [hm0] at hb hlen
 refine gc_enter (n:=13) Tryz.func58 rfl (by kernel_rfl) (by kernel_rfl) ?_
 refine gc_seq ?_
 refine gc_reg ?_
 refine t 4 (.slice none 0 0) ?_
 refine gl_nil ?_
 refine ge_then ?_
 refine gc_seq ?_
 refine gc_reg ?_
 refine t 5 (pg q) ?_
 refine t 6 (pv) ?_
 refine t 7 (pg q) ?_
 refine t 8 (pg q) ?_
 refine t 9 (pg q) ?_
 refine tl 10 (.slice la m lc) hb 0 ?_
 refine t 11 (.int .i64 ((m:Nat):Int)) ?_
 refine tc 12 110 #[pg q,pv,.int .i64 ((m:Nat):Int)] (rxprefix h hp hpl hn (by omega) (by omega)) ?_
 rintro _ v1 ⟨v,es,rfl,P,he,Y,n1,S,hn1,hY,C⟩
 refine ⟨_,rfl,?_⟩
 refine t 4 (v) ?_
 refine gl_nil ?_
 refine ge_then ?_
 refine gc_fr [(4,v)] (by kernel_rfl) ?_
 refine gc_ret ?_
 refine ge_ret (v) (rs1 4 (by kernel_rfl) (by kernel_rfl)) ?_
 exact ⟨_,_,rfl,P,he,Y,n1,S,hn1,hY,C⟩
end
theorem run_ld8 {ρ:Operand->Value} {o:Oper} {w:World} {b off:Nat} {v:Value} (hc:w.cell? ⟨b,off,none⟩=some v) (ho:∃ p,o.op=.load 57 p/\ρ p=.pointer (some ⟨b,off,none⟩):=by exact ⟨_,rfl,by kernel_rfl⟩):(execOp ρ o).run Tryz.prog w=.ok (.value v) w:=by
 obtain ⟨p,h,hp⟩:=ho
 have:(loadVar 57 ⟨b,off,none⟩).run Tryz.prog w=.ok v w:=by go_simp
 simp only [execOp,h,hp]
 simp [Instr.loadAt,Instr.sureAddr,Result.andThen,this]
theorem frm_u10:∀ k:Nat,k < 18->Ky.frm k=Ky.frm (10:Nat)->k=10:=by decide +kernel
theorem frm_u11:∀ k:Nat,k < 18->Ky.frm k=Ky.frm (11:Nat)->k=11:=by decide +kernel
theorem rread_k {w:World} {v:Value} {l:List Int} {r:Nat} (hr:∀ k:Nat,k < 18->Ky.frm k=Ky.frm r->k=r) (hr1:r < 18) (hr0:0 < r) (h:By w v l) (hl:l.length<=1000000000) (h0:0 < l.length) (hf:Ky.frm r=Ky.fIn l):Calls Tryz.prog 59 #[v] w fun e w'=>e=.returned (.tuple #[.agg #[.int .i64 (r:Int),.int .u64 (Ky.rdA r l),.int .u64 (Ky.rdB l)],.int .i64 0])/\Below w.heap.size w w':=by
 obtain ⟨ao,c,rfl,h1,h2,h3,h4,h5⟩:=id h.ex
 rcases h5 with rfl | ⟨b,o,rfl,_⟩
 ·simp at h0
 refine (Ky.rread_any h hl h0).mono ?_
 rintro e w' ⟨R,A,B,Er,rfl,h6,hb⟩
 rcases h6 with ⟨k,k1,k2,k3,rfl,rfl,rfl,rfl⟩ | ⟨k1,_⟩
 ·have:=hr k k1 (k3.trans hf.symm)
  subst this
  exact ⟨rfl,hb⟩
 ·exact absurd hf (k1 r hr1 hr0)
structure RNumE (B:Nat) (w:World) (X:Nat->Prop) (q:Nat) (E:Ents) (n:Nat) (l:List Int) (e:Ending) (w':World):Prop where
 ex:∃ v,e=.returned v/\UA w' w.heap.size v l/\∃ X' n',Rx B w' X' q E n'/\n'<=n + 1 + E.length/\(∀ b,X' b->X b\/w.heap.size<=b)/\Chg (· = q) w w'
theorem rtop {B:Nat} {w:World} {X:Nat->Prop} {q:Nat} {E:Ents} {n:Nat} {m:Int} (h:Rx B w X q E n) (hRk:∀ x∈E,[105] <+: x.1->Ky.frm (10:Nat)=Ky.fIn x.1) (hn:n<=3000000000000000000) (hm:E.length<=100000):Calls Tryz.prog 20 #[pg q,.int .i64 m] w (RNumE B w X q E n (((pks 10 105 E).map Prod.snd).take m.toNat)):=by
 have BB:=Below.refl w.heap.size w
 refine gc_enter (n:=39) Tryz.func20 rfl (by kernel_rfl) (by kernel_rfl) ?_
 refine gc_seq ?_
 refine gc_reg ?_
 refine t 4 (.slice none 0 0) ?_
 refine gl_nil ?_
 refine ge_then ?_
 refine gc_seq ?_
 refine gc_reg ?_
 refine t 5 (.slice none 0 0) ?_
 refine gl_nil ?_
 refine ge_then ?_
 refine gc_seq ?_
 refine gc_reg ?_
 refine t 10 (pg q) ?_
 refine ta 11 [.int .u8 105] 5 (sg 1) ?_
 intro v1 g2 Xg2 hg2 B
 replace BB:=joinB BB B
 clear B
 refine tc 12 58 #[pg q,sg 1 g2] (all9 (h.keep BB) (byu1 (by decide) Xg2) (by decide) hn (by omega)) ?_
 rintro _ v3 ⟨vl,es,rfl,P,he,Y,n1,S,hn1,hY,C⟩
 refine ⟨_,rfl,?_⟩
 obtain ⟨av,cv,rfl⟩:=P.shape
 have hes:es.map (fun e=>Ky.rdB e.kl)=((pks 10 105 E).map Prod.snd):=by
  unfold pks
  rw [<- he,List.map_map,List.map_map]
  rfl
 have hml:es.length<=E.length:=by
  have:=congrArg List.length he
  rw [List.length_map] at this
  rw [this]
  exact List.length_filter_le _ _
 have hfr:∀ x∈es,Ky.frm (10:Nat)=Ky.fIn x.kl/\x.kl.length<=1000000000/\0 < x.kl.length:=fun x hx=>by
  have hm2:x.kl2∈E.filter (fun y=>decide ([105] <+: y.1)):=by rw [<- he]; exact List.mem_map.2 ⟨x,hx,rfl⟩
  have h1:=of_decide_eq_true (List.mem_filter.1 hm2).2
  exact ⟨hRk _ (List.mem_filter.1 hm2).1 h1,(S.rs.small _ (List.mem_filter.1 hm2).1).1,show 1<=x.kl.length from h1.length_le⟩
 obtain ⟨M_,hm0⟩:∃ m,es.length=m:=⟨_,rfl⟩
 obtain ⟨pb,hao⟩:∃ pb,0 < M_->av=some ⟨pb,0,none⟩:=by
  rcases P.ex with ⟨_,e1⟩ | ⟨b,c,e1,_⟩
  ·exact ⟨0,fun h=>by rw [e1] at hm0; simp at hm0; omega⟩
  ·exact ⟨b,fun _=>by cases e1; rfl⟩
 rw [hm0]
 refine t 6 (.slice av M_ cv) ?_
 refine gl_nil ?_
 refine ge_then ?_
 refine gc_seq ?_
 refine gc_seq ?_
 refine gc_reg ?_
 refine t 7 (.int .i64 0) ?_
 refine gl_nil ?_
 refine ge_then ?_
 refine gc_block ?_
 obtain ⟨VA,hVA⟩:∃ V,v3=V:=⟨_,rfl⟩
 rw [hVA] at P S C ⊢
 refine gc_loop (fun s=>M_ - s.1) (fun (s:Nat × Option Addr × Nat × Nat)=>[(1,.int .i64 m),(5,.slice s.2.1 s.2.2.1 s.2.2.2),(6,.slice av M_ cv),(7,.int .i64 (s.1:Int))]) (fun s w'=>s.1<=M_/\s.1<=m.toNat/\Below VA.heap.size VA w'/\UA w' VA.heap.size (.slice s.2.1 s.2.2.1 s.2.2.2) (((pks 10 105 E).map Prod.snd).take s.1)/\s.2.2.1=s.1) ((0,none,0,0):Nat × Option Addr × Nat × Nat) ⟨Nat.zero_le _,Nat.zero_le _,Below.refl _ _,by simpa using UA.nil _ _,rfl⟩ (by kernel_rfl) ?_
 rintro ⟨i,a,k,d⟩ v4 ⟨hi,hlim,BV,U,hk⟩
 dsimp only at hi hlim U hk
 have zV:=BV.size
 have B0:=Below.refl v4.heap.size v4
 refine gc_seq ?_
 refine gc_seq ?_
 refine gc_reg ?_
 refine t 13 (.int .i64 (i:Int)) ?_
 refine t 14 (.slice av M_ cv) ?_
 refine t 15 (.int .i64 ((M_:Nat):Int)) ?_
 by_cases ci:(i:Int) < ((M_:Nat):Int)
 ·have hk_i:i < M_:=by omega
  obtain ⟨ei,hei⟩:∃ x,es[i]? = some x:=⟨es[i],List.getElem?_eq_getElem (by omega)⟩
  have hce:VA.cell? ⟨pb,0 + i * 2,none⟩=some ei.kv:=by
   have ha:=hao (by omega)
   subst ha
   rw [Nat.zero_add]
   exact (P.cells hei).1
  refine tq 16 (.bool (decide ((i:Int) < ((M_:Nat):Int)))) (.bool true) (congrArg Value.bool (decide_eq_true ci)) ?_
  refine t 17 (.bool true) ?_
  refine t 18 (.int .i64 (i:Int)) ?_
  refine t 19 (.int .i64 m) ?_
  by_cases c5:(i:Int) < m
  ·refine tq 20 (.bool (decide ((i:Int) < m))) (.bool true) (congrArg Value.bool (decide_eq_true c5)) ?_
   refine t 21 (.bool true) ?_
   refine gl_nil ?_
   refine ge_then ?_
   refine gc_yes ?_
   refine gc_skip ?_
   refine ge_then ?_
   refine gc_seq ?_
   refine gc_block ?_
   refine gc_seq ?_
   refine gc_reg ?_
   refine t 25 (.slice av M_ cv) ?_
   refine t 26 (.int .i64 (i:Int)) ?_
   refine tr 27 (pq pb (0 + i * 2)) (run_ixa 2 pb 0 M_ cv i hk_i hao) ?_
   refine t 28 (pq pb (0 + i * 2)) ?_
   refine tr 29 (ei.kv) (run_ld8 (cellB BV hce)) ?_
   refine tc 30 59 #[ei.kv] (rread_k (r:=10) frm_u10 (by decide) (by decide) (OB.by (OB.keep (P.ents _ (List.mem_of_getElem? hei)).k BV)) (hfr _ (List.mem_of_getElem? hei)).2.1 (hfr _ (List.mem_of_getElem? hei)).2.2 (hfr _ (List.mem_of_getElem? hei)).1) ?_
   rintro _ v6 ⟨rfl,B⟩
   refine ⟨_,rfl,?_⟩
   replace BV:=joinB BV B
   replace B0:=joinB B0 B
   clear B
   refine t 24 (.tuple #[.agg #[.int .i64 (10:Nat),.int .u64 (Ky.rdA 10 ei.kl),.int .u64 (Ky.rdB ei.kl)],.int .i64 0]) ?_
   refine t 31 (.agg #[.int .i64 (10:Nat),.int .u64 (Ky.rdA 10 ei.kl),.int .u64 (Ky.rdB ei.kl)]) ?_
   refine t 32 (.int .i64 0) ?_
   refine ta 8 [.int .i64 0,.int .u64 0,.int .u64 0] 104 (pg) ?_
   intro v7 g8 Xg8 hg8 B
   have zBVg8:=Nat.le_trans BV.size hg8
   have zB0g8:=Nat.le_trans B0.size hg8
   replace BV:=joinB BV B
   replace B0:=joinB B0 B
   clear B
   refine ts Xg8 0 (.agg #[.int .i64 (10:Nat),.int .u64 (Ky.rdA 10 ei.kl),.int .u64 (Ky.rdB ei.kl)]) [.int .i64 (10:Nat),.int .u64 (Ky.rdA 10 ei.kl),.int .u64 (Ky.rdB ei.kl)] [.int .i64 (10:Nat),.int .u64 (Ky.rdA 10 ei.kl),.int .u64 (Ky.rdB ei.kl)] ?_
   intro v9 Y C
   replace BV:=belowC BV C (by omega)
   replace B0:=belowC B0 C (by omega)
   clear C Xg8
   have Xg8:=Y
   clear Y
   refine t 9 (.int .i64 0) ?_
   refine gl_nil ?_
   refine ge_then ?_
   refine gc_fr [(1,.int .i64 m),(5,.slice a k d),(6,.slice av M_ cv),(7,.int .i64 (i:Int)),(8,pg g8),(13,.int .i64 (i:Int)),(14,.slice av M_ cv),(15,.int .i64 ((M_:Nat):Int)),(16,.bool true),(17,.bool true),(18,.int .i64 (i:Int)),(19,.int .i64 m),(20,.bool true),(21,.bool true),(24,.tuple #[.agg #[.int .i64 (10:Nat),.int .u64 (Ky.rdA 10 ei.kl),.int .u64 (Ky.rdB ei.kl)],.int .i64 0]),(25,.slice av M_ cv),(26,.int .i64 (i:Int)),(27,pq pb (0 + i * 2)),(28,pq pb (0 + i * 2)),(29,ei.kv),(30,.tuple #[.agg #[.int .i64 (10:Nat),.int .u64 (Ky.rdA 10 ei.kl),.int .u64 (Ky.rdB ei.kl)],.int .i64 0]),(31,.agg #[.int .i64 (10:Nat),.int .u64 (Ky.rdA 10 ei.kl),.int .u64 (Ky.rdB ei.kl)]),(32,.int .i64 0)] (by kernel_rfl) ?_
   refine gc_reg ?_
   refine t 33 (.slice a k d) ?_
   refine t 34 (pq g8 2) ?_
   refine tl 35 (.int .u64 (Ky.rdB ei.kl)) Xg8 2 ?_
   have lXg8:=Xg8.lt
   refine ta 36 [.int .u64 (Ky.rdB ei.kl)] 31 (sg 1) ?_
   intro v10 g11 Xg11 hg11 B
   have zBVg11:=Nat.le_trans BV.size hg11
   have zB0g11:=Nat.le_trans B0.size hg11
   replace BV:=joinB BV B
   replace B0:=joinB B0 B
   replace Xg8:=Xg8.keep B
   clear B
   have zC:=B0.size
   obtain ⟨v5,w5,hr5,U5,C5⟩:=app_u (a:=⟨g11,0,none⟩) 40 (U.keep B0) (by omega) (by rw [List.length_take]; omega) (Xg11.cell (i:=0) rfl)
   have hl5:(((pks 10 105 E).map Prod.snd).take i ++ [Ky.rdB ei.kl]).length=i + 1:=by rw [List.length_append,List.length_take,<- hes,List.length_map]; simp; omega
   obtain ⟨a5,c5,rfl⟩:=U5.shape
   rw [hl5] at U5 hr5
   refine tw 37 (.slice a5 (i + 1) c5) _ (run_apU hr5) ?_
   have BV5:Below VA.heap.size VA w5:=BV.trans (C5.below (fun b h=>by omega) BV.size)
   clear BV B0 Xg8 Xg11
   refine t 5 (.slice a5 (i + 1) c5) ?_
   refine gl_nil ?_
   refine ge_bn ?_
   refine ge_then ?_
   refine gc_reg ?_
   refine t 22 (.int .i64 (i:Int)) ?_
   refine tq 23 (.int .i64 (IntKind.i64.wrap ((i:Int) + 1))) (.int .i64 ((i:Int) + 1)) (wi (by omega)) ?_
   refine t 7 (.int .i64 ((i:Int) + 1)) ?_
   refine gl_nil ?_
   have hq:((pks 10 105 E).map Prod.snd)[i]? = some (Ky.rdB ei.kl):=by rw [<- hes,List.getElem?_map,hei]; rfl
   have he6:((pks 10 105 E).map Prod.snd).take (i + 1)=((pks 10 105 E).map Prod.snd).take i ++ [Ky.rdB ei.kl]:=by rw [List.take_add_one,hq]; rfl
   rw [<- he6] at U5
   exact ge_round ((i + 1,a5,i + 1,c5):Nat × Option Addr × Nat × Nat) (by show M_ - (i + 1) < M_ - i; omega) ⟨hk_i,by show i + 1<=m.toNat; omega,BV5,U5,rfl⟩ (by kernel_rfl)
  ·refine tq 20 (.bool (decide ((i:Int) < m))) (.bool false) (congrArg Value.bool (decide_eq_false c5)) ?_
   refine t 21 (.bool false) ?_
   refine gl_nil ?_
   refine ge_then ?_
   refine gc_no ?_
   refine gc_exit ?_
   refine ge_tx ?_
   refine ge_tx ?_
   refine ge_bx ?_
   refine ge_then ?_
   refine gc_seq ?_
   refine gc_reg ?_
   refine t 38 (.slice a k d) ?_
   refine t 4 (.slice a k d) ?_
   refine gl_nil ?_
   refine ge_then ?_
   refine gc_ret ?_
   refine ge_ret (.slice a k d) (rs1 4 (by kernel_rfl) (by kernel_rfl)) ?_
   have hLl:((pks 10 105 E).map Prod.snd).length=M_:=by rw [<- hes,List.length_map]; exact hm0
   have hN:((pks 10 105 E).map Prod.snd).take i=((pks 10 105 E).map Prod.snd).take m.toNat:=by
    rcases Nat.lt_or_ge i m.toNat with g1 | g1
    ·rw [List.take_of_length_le (by omega),List.take_of_length_le (by omega)]
    ·rw [show i=m.toNat by omega]
   rw [hN] at U
   exact ⟨_,rfl,U.low (by have:=C.size; have:=BB.size; omega),Y,n1,S.keep BV,hn1,fun b hb=>(hY b hb).imp id (fun h=>Nat.le_trans BB.size h),((Chg.of (F:=fun x=>x=q) BB).trans C (fun _ _ h=>h)).trans (Chg.of (F:=fun x=>x=q) BV) (fun _ _ h=>h)⟩
 ·refine tq 16 (.bool (decide ((i:Int) < ((M_:Nat):Int)))) (.bool false) (congrArg Value.bool (decide_eq_false ci)) ?_
  refine t 17 (.bool false) ?_
  refine tn 18 ?_
  refine tn 19 ?_
  refine tn 20 ?_
  refine t 21 (.bool false) ?_
  refine gl_nil ?_
  refine ge_then ?_
  refine gc_no ?_
  refine gc_exit ?_
  refine ge_tx ?_
  refine ge_tx ?_
  refine ge_bx ?_
  refine ge_then ?_
  refine gc_seq ?_
  refine gc_reg ?_
  refine t 38 (.slice a k d) ?_
  refine t 4 (.slice a k d) ?_
  refine gl_nil ?_
  refine ge_then ?_
  refine gc_ret ?_
  refine ge_ret (.slice a k d) (rs1 4 (by kernel_rfl) (by kernel_rfl)) ?_
  have hLl:((pks 10 105 E).map Prod.snd).length=M_:=by rw [<- hes,List.length_map]; exact hm0
  have hN:((pks 10 105 E).map Prod.snd).take i=((pks 10 105 E).map Prod.snd).take m.toNat:=by
   rcases Nat.lt_or_ge i m.toNat with g1 | g1
   ·rw [List.take_of_length_le (by omega),List.take_of_length_le (by omega)]
   ·rw [show i=m.toNat by omega]
  rw [hN] at U
  exact ⟨_,rfl,U.low (by have:=C.size; have:=BB.size; omega),Y,n1,S.keep BV,hn1,fun b hb=>(hY b hb).imp id (fun h=>Nat.le_trans BB.size h),((Chg.of (F:=fun x=>x=q) BB).trans C (fun _ _ h=>h)).trans (Chg.of (F:=fun x=>x=q) BV) (fun _ _ h=>h)⟩
theorem rbonded {B:Nat} {w:World} {X:Nat->Prop} {q:Nat} {E:Ents} {n:Nat} (h:Rx B w X q E n) (hRk:∀ x∈E,[98] <+: x.1->Ky.frm (11:Nat)=Ky.fIn x.1) (hn:n<=3000000000000000000) (hm:E.length<=100000):Calls Tryz.prog 22 #[pg q] w (RNumE B w X q E n (((pks 11 98 E).map Prod.fst))):=by
 have BB:=Below.refl w.heap.size w
 refine gc_enter (n:=32) Tryz.func22 rfl (by kernel_rfl) (by kernel_rfl) ?_
 refine gc_seq ?_
 refine gc_reg ?_
 refine t 2 (.slice none 0 0) ?_
 refine gl_nil ?_
 refine ge_then ?_
 refine gc_seq ?_
 refine gc_reg ?_
 refine t 3 (.slice none 0 0) ?_
 refine gl_nil ?_
 refine ge_then ?_
 refine gc_seq ?_
 refine gc_reg ?_
 refine t 8 (pg q) ?_
 refine ta 9 [.int .u8 98] 5 (sg 1) ?_
 intro v1 g2 Xg2 hg2 B
 replace BB:=joinB BB B
 clear B
 refine tc 10 58 #[pg q,sg 1 g2] (all9 (h.keep BB) (byu1 (by decide) Xg2) (by decide) hn (by omega)) ?_
 rintro _ v3 ⟨vl,es,rfl,P,he,Y,n1,S,hn1,hY,C⟩
 refine ⟨_,rfl,?_⟩
 obtain ⟨av,cv,rfl⟩:=P.shape
 have hes:es.map (fun e=>Ky.rdA 11 e.kl)=((pks 11 98 E).map Prod.fst):=by
  unfold pks
  rw [<- he,List.map_map,List.map_map]
  rfl
 have hml:es.length<=E.length:=by
  have:=congrArg List.length he
  rw [List.length_map] at this
  rw [this]
  exact List.length_filter_le _ _
 have hfr:∀ x∈es,Ky.frm (11:Nat)=Ky.fIn x.kl/\x.kl.length<=1000000000/\0 < x.kl.length:=fun x hx=>by
  have hm2:x.kl2∈E.filter (fun y=>decide ([98] <+: y.1)):=by rw [<- he]; exact List.mem_map.2 ⟨x,hx,rfl⟩
  have h1:=of_decide_eq_true (List.mem_filter.1 hm2).2
  exact ⟨hRk _ (List.mem_filter.1 hm2).1 h1,(S.rs.small _ (List.mem_filter.1 hm2).1).1,show 1<=x.kl.length from h1.length_le⟩
 obtain ⟨M_,hm0⟩:∃ m,es.length=m:=⟨_,rfl⟩
 obtain ⟨pb,hao⟩:∃ pb,0 < M_->av=some ⟨pb,0,none⟩:=by
  rcases P.ex with ⟨_,e1⟩ | ⟨b,c,e1,_⟩
  ·exact ⟨0,fun h=>by rw [e1] at hm0; simp at hm0; omega⟩
  ·exact ⟨b,fun _=>by cases e1; rfl⟩
 rw [hm0]
 refine t 4 (.slice av M_ cv) ?_
 refine gl_nil ?_
 refine ge_then ?_
 refine gc_seq ?_
 refine gc_seq ?_
 refine gc_reg ?_
 refine t 5 (.int .i64 0) ?_
 refine gl_nil ?_
 refine ge_then ?_
 refine gc_block ?_
 obtain ⟨VA,hVA⟩:∃ V,v3=V:=⟨_,rfl⟩
 rw [hVA] at P S C ⊢
 refine gc_loop (fun s=>M_ - s.1) (fun (s:Nat × Option Addr × Nat × Nat)=>[(3,.slice s.2.1 s.2.2.1 s.2.2.2),(4,.slice av M_ cv),(5,.int .i64 (s.1:Int))]) (fun s w'=>s.1<=M_/\Below VA.heap.size VA w'/\UA w' VA.heap.size (.slice s.2.1 s.2.2.1 s.2.2.2) (((pks 11 98 E).map Prod.fst).take s.1)/\s.2.2.1=s.1) ((0,none,0,0):Nat × Option Addr × Nat × Nat) ⟨Nat.zero_le _,Below.refl _ _,by simpa using UA.nil _ _,rfl⟩ (by kernel_rfl) ?_
 rintro ⟨i,a,k,d⟩ v4 ⟨hi,BV,U,hk⟩
 dsimp only at hi U hk
 have zV:=BV.size
 have B0:=Below.refl v4.heap.size v4
 refine gc_seq ?_
 refine gc_seq ?_
 refine gc_reg ?_
 refine t 11 (.int .i64 (i:Int)) ?_
 refine t 12 (.slice av M_ cv) ?_
 refine t 13 (.int .i64 ((M_:Nat):Int)) ?_
 by_cases ci:(i:Int) < ((M_:Nat):Int)
 ·have hk_i:i < M_:=by omega
  obtain ⟨ei,hei⟩:∃ x,es[i]? = some x:=⟨es[i],List.getElem?_eq_getElem (by omega)⟩
  have hce:VA.cell? ⟨pb,0 + i * 2,none⟩=some ei.kv:=by
   have ha:=hao (by omega)
   subst ha
   rw [Nat.zero_add]
   exact (P.cells hei).1
  refine tq 14 (.bool (decide ((i:Int) < ((M_:Nat):Int)))) (.bool true) (congrArg Value.bool (decide_eq_true ci)) ?_
  refine gl_nil ?_
  refine ge_then ?_
  refine gc_yes ?_
  refine gc_skip ?_
  refine ge_then ?_
  refine gc_seq ?_
  refine gc_block ?_
  refine gc_seq ?_
  refine gc_reg ?_
  refine t 18 (.slice av M_ cv) ?_
  refine t 19 (.int .i64 (i:Int)) ?_
  refine tr 20 (pq pb (0 + i * 2)) (run_ixa 2 pb 0 M_ cv i hk_i hao) ?_
  refine t 21 (pq pb (0 + i * 2)) ?_
  refine tr 22 (ei.kv) (run_ld8 (cellB BV hce)) ?_
  refine tc 23 59 #[ei.kv] (rread_k (r:=11) frm_u11 (by decide) (by decide) (OB.by (OB.keep (P.ents _ (List.mem_of_getElem? hei)).k BV)) (hfr _ (List.mem_of_getElem? hei)).2.1 (hfr _ (List.mem_of_getElem? hei)).2.2 (hfr _ (List.mem_of_getElem? hei)).1) ?_
  rintro _ v5 ⟨rfl,B⟩
  refine ⟨_,rfl,?_⟩
  replace BV:=joinB BV B
  replace B0:=joinB B0 B
  clear B
  refine t 17 (.tuple #[.agg #[.int .i64 (11:Nat),.int .u64 (Ky.rdA 11 ei.kl),.int .u64 (Ky.rdB ei.kl)],.int .i64 0]) ?_
  refine t 24 (.agg #[.int .i64 (11:Nat),.int .u64 (Ky.rdA 11 ei.kl),.int .u64 (Ky.rdB ei.kl)]) ?_
  refine t 25 (.int .i64 0) ?_
  refine ta 6 [.int .i64 0,.int .u64 0,.int .u64 0] 104 (pg) ?_
  intro v6 g7 Xg7 hg7 B
  have zBVg7:=Nat.le_trans BV.size hg7
  have zB0g7:=Nat.le_trans B0.size hg7
  replace BV:=joinB BV B
  replace B0:=joinB B0 B
  clear B
  refine ts Xg7 0 (.agg #[.int .i64 (11:Nat),.int .u64 (Ky.rdA 11 ei.kl),.int .u64 (Ky.rdB ei.kl)]) [.int .i64 (11:Nat),.int .u64 (Ky.rdA 11 ei.kl),.int .u64 (Ky.rdB ei.kl)] [.int .i64 (11:Nat),.int .u64 (Ky.rdA 11 ei.kl),.int .u64 (Ky.rdB ei.kl)] ?_
  intro v8 Y C
  replace BV:=belowC BV C (by omega)
  replace B0:=belowC B0 C (by omega)
  clear C Xg7
  have Xg7:=Y
  clear Y
  refine t 7 (.int .i64 0) ?_
  refine gl_nil ?_
  refine ge_then ?_
  refine gc_fr [(3,.slice a k d),(4,.slice av M_ cv),(5,.int .i64 (i:Int)),(6,pg g7),(11,.int .i64 (i:Int)),(12,.slice av M_ cv),(13,.int .i64 ((M_:Nat):Int)),(14,.bool true),(17,.tuple #[.agg #[.int .i64 (11:Nat),.int .u64 (Ky.rdA 11 ei.kl),.int .u64 (Ky.rdB ei.kl)],.int .i64 0]),(18,.slice av M_ cv),(19,.int .i64 (i:Int)),(20,pq pb (0 + i * 2)),(21,pq pb (0 + i * 2)),(22,ei.kv),(23,.tuple #[.agg #[.int .i64 (11:Nat),.int .u64 (Ky.rdA 11 ei.kl),.int .u64 (Ky.rdB ei.kl)],.int .i64 0]),(24,.agg #[.int .i64 (11:Nat),.int .u64 (Ky.rdA 11 ei.kl),.int .u64 (Ky.rdB ei.kl)]),(25,.int .i64 0)] (by kernel_rfl) ?_
  refine gc_reg ?_
  refine t 26 (.slice a k d) ?_
  refine t 27 (pq g7 1) ?_
  refine tl 28 (.int .u64 (Ky.rdA 11 ei.kl)) Xg7 1 ?_
  have lXg7:=Xg7.lt
  refine ta 29 [.int .u64 (Ky.rdA 11 ei.kl)] 31 (sg 1) ?_
  intro v9 g10 Xg10 hg10 B
  have zBVg10:=Nat.le_trans BV.size hg10
  have zB0g10:=Nat.le_trans B0.size hg10
  replace BV:=joinB BV B
  replace B0:=joinB B0 B
  replace Xg7:=Xg7.keep B
  clear B
  have zC:=B0.size
  obtain ⟨v5,w5,hr5,U5,C5⟩:=app_u (a:=⟨g10,0,none⟩) 40 (U.keep B0) (by omega) (by rw [List.length_take]; omega) (Xg10.cell (i:=0) rfl)
  have hl5:(((pks 11 98 E).map Prod.fst).take i ++ [Ky.rdA 11 ei.kl]).length=i + 1:=by rw [List.length_append,List.length_take,<- hes,List.length_map]; simp; omega
  obtain ⟨a5,c5,rfl⟩:=U5.shape
  rw [hl5] at U5 hr5
  refine tw 30 (.slice a5 (i + 1) c5) _ (run_apU hr5) ?_
  have BV5:Below VA.heap.size VA w5:=BV.trans (C5.below (fun b h=>by omega) BV.size)
  clear BV B0 Xg7 Xg10
  refine t 3 (.slice a5 (i + 1) c5) ?_
  refine gl_nil ?_
  refine ge_bn ?_
  refine ge_then ?_
  refine gc_reg ?_
  refine t 15 (.int .i64 (i:Int)) ?_
  refine tq 16 (.int .i64 (IntKind.i64.wrap ((i:Int) + 1))) (.int .i64 ((i:Int) + 1)) (wi (by omega)) ?_
  refine t 5 (.int .i64 ((i:Int) + 1)) ?_
  refine gl_nil ?_
  have hq:((pks 11 98 E).map Prod.fst)[i]? = some (Ky.rdA 11 ei.kl):=by rw [<- hes,List.getElem?_map,hei]; rfl
  have he6:((pks 11 98 E).map Prod.fst).take (i + 1)=((pks 11 98 E).map Prod.fst).take i ++ [Ky.rdA 11 ei.kl]:=by rw [List.take_add_one,hq]; rfl
  rw [<- he6] at U5
  exact ge_round ((i + 1,a5,i + 1,c5):Nat × Option Addr × Nat × Nat) (by show M_ - (i + 1) < M_ - i; omega) ⟨hk_i,BV5,U5,rfl⟩ (by kernel_rfl)
 ·refine tq 14 (.bool (decide ((i:Int) < ((M_:Nat):Int)))) (.bool false) (congrArg Value.bool (decide_eq_false ci)) ?_
  refine gl_nil ?_
  refine ge_then ?_
  refine gc_no ?_
  refine gc_exit ?_
  refine ge_tx ?_
  refine ge_tx ?_
  refine ge_bx ?_
  refine ge_then ?_
  refine gc_seq ?_
  refine gc_reg ?_
  refine t 31 (.slice a k d) ?_
  refine t 2 (.slice a k d) ?_
  refine gl_nil ?_
  refine ge_then ?_
  refine gc_ret ?_
  refine ge_ret (.slice a k d) (rs1 2 (by kernel_rfl) (by kernel_rfl)) ?_
  have hLl:((pks 11 98 E).map Prod.fst).length=M_:=by rw [<- hes,List.length_map]; exact hm0
  have hN:((pks 11 98 E).map Prod.fst).take i=((pks 11 98 E).map Prod.fst):=List.take_of_length_le (by omega)
  rw [hN] at U
  exact ⟨_,rfl,U.low (by have:=C.size; have:=BB.size; omega),Y,n1,S.keep BV,hn1,fun b hb=>(hY b hb).imp id (fun h=>Nat.le_trans BB.size h),((Chg.of (F:=fun x=>x=q) BB).trans C (fun _ _ h=>h)).trans (Chg.of (F:=fun x=>x=q) BV) (fun _ _ h=>h)⟩
end Pw
end Go.Proofs.YtflenlpabmehoaaGreat
namespace Go.Proofs.YtflenlpabmehoaaGreat
namespace Pw
open Go.RowKit Go.Lib Pg Lim Gl Kv Bk
attribute [local go_sem] Oper.semAt_some
set_option maxRecDepth 100000
set_option linter.unusedSimpArgs false
set_option linter.unusedVariables false
set_option maxHeartbeats 2000000
structure Po (E:Ents):Prop where
 k10:∀ x∈E,[105] <+: x.1->Ky.frm (10:Nat)=Ky.fIn x.1
 k11:∀ x∈E,[98] <+: x.1->Ky.frm (11:Nat)=Ky.fIn x.1
theorem po_nil:Po []:=⟨fun x h=>by simp at h,fun x h=>by simp at h⟩
theorem mem_put {E:Ents} {k v:List Int} {x:KV} (h:x∈put E k v):x∈E\/x=(k,v):=by
 unfold put at h
 rcases List.mem_append.1 h with h | h
 ·exact .inl (List.mem_filter.1 h).1
 ·rcases List.mem_cons.1 h with h | h
  ·exact .inr h
  ·exact .inl (List.mem_filter.1 h).1
theorem mk10_head (tk v:Int):∃ r,Ky.mk 10 tk v=105 :: r:=⟨_,by rw [Ky.mk_eq (k:=10) (n:=17) (m0:=105) (m1:=0) rfl]; rfl⟩
theorem mk11_head (v:Int):∃ r,Ky.mk 11 v 0=98 :: r:=⟨_,by rw [Ky.mk_eq (k:=11) (n:=9) (m0:=98) (m1:=0) rfl]; rfl⟩
section
variable {E:Ents} {v tk:Int}
theorem Po.put10 (h:Po E) (ht:0<=tk/\tk < 18446744073709551616) (hv:0<=v/\v < 18446744073709551616):Po (put E (Ky.mk 10 tk v) []):=by
 obtain ⟨r,hr⟩:=mk10_head tk v
 have f:=(Ky.mk_back (k:=10) (by decide) (by decide) ht hv (mkE10 tk v)).1
 refine ⟨fun x hx hp => ?_,fun x hx hp => ?_⟩
 ·rcases mem_put hx with h1 | rfl
  ·exact h.k10 x h1 hp
  ·exact f
 ·rcases mem_put hx with h1 | rfl
  ·exact h.k11 x h1 hp
  ·rw [show ((Ky.mk 10 tk v,([]:List Int)):KV).1=105 :: r from hr] at hp
   simp at hp
theorem Po.put11 (h:Po E) (hv:0<=v/\v < 18446744073709551616):Po (put E (Ky.mk 11 v 0) []):=by
 obtain ⟨r,hr⟩:=mk11_head v
 have f:=(Ky.mk_back (k:=11) (by decide) (by decide) hv (b:=0) (by decide) (mkE11 v)).1
 refine ⟨fun x hx hp => ?_,fun x hx hp => ?_⟩
 ·rcases mem_put hx with h1 | rfl
  ·exact h.k10 x h1 hp
  ·rw [show ((Ky.mk 11 v 0,([]:List Int)):KV).1=98 :: r from hr] at hp
   simp at hp
 ·rcases mem_put hx with h1 | rfl
  ·exact h.k11 x h1 hp
  ·exact f
theorem Po.rem (h:Po E) (k:List Int):Po (Kv.rem E k):=⟨fun x hx=>h.k10 x (List.mem_filter.1 hx).1,fun x hx=>h.k11 x (List.mem_filter.1 hx).1⟩
end
structure NumF (B:Nat) (w:World) (K:Nat->Prop) (g:Nat) (E:Ents) (W:List Ents) (n N k:Nat) (l:List Int) (e:Ending) (w':World):Prop where
 ex:∃ v n',e=.returned v/\UA w' w.heap.size v l/\Sx B w' K g E W n' N/\n<=n'/\n'<=n + 1 + k/\Chg (· = g) w w'
theorem top_0 {B:Nat} {w:World} {K:Nat->Prop} {g:Nat} {E:Ents} {W:List Ents} {n N:Nat} {m:Int} (h:Sx B w K g E W n N) (hm:m < 1):Calls Tryz.prog 19 #[pg g,.int .i64 m] w (NumF B w K g E W n N m.toNat (((pks 10 105 E).map Prod.snd).take m.toNat)):=by
 have BB:=Below.refl w.heap.size w
 have A:=h.at
 refine gc_enter (n:=22) Tryz.func19 rfl (by kernel_rfl) (by kernel_rfl) ?_
 refine gc_seq ?_
 refine gc_reg ?_
 refine ta 3 [.int .i64 m] 3 (pg) ?_
 intro v1 g2 Xg2 hg2 B
 have zg2:=Nat.le_trans A.size hg2
 have nXg2:=A.new hg2
 replace BB:=joinB BB B
 replace A:=A.keep B
 clear B
 refine t 4 (.slice none 0 0) ?_
 refine gl_nil ?_
 refine ge_then ?_
 refine gc_seq ?_
 refine gc_seq ?_
 refine gc_reg ?_
 refine tl 7 (.int .i64 m) Xg2 0 ?_
 refine tq 8 (.bool (decide ((m:Int) < 1))) (.bool true) (congrArg Value.bool (decide_eq_true hm)) ?_
 refine gl_nil ?_
 refine ge_then ?_
 refine gc_yes ?_
 refine gc_seq ?_
 refine gc_reg ?_
 refine t 4 (.slice none 0 0) ?_
 refine gl_nil ?_
 refine ge_then ?_
 refine gc_ret ?_
 refine ge_tr ?_
 refine ge_ret (.slice none 0 0) (rs1 4 (by kernel_rfl) (by kernel_rfl)) ?_
 exact ⟨_,_,rfl,by rw [show m.toNat=0 by omega]; exact UA.nil _ _,A.sx,Nat.le_refl _,by omega,Chg.of BB⟩
theorem top_y {B:Nat} {w:World} {K:Nat->Prop} {g:Nat} {E:Ents} {W:List Ents} {n N:Nat} {m:Int} (h:Sx B w K g E W n N) (hm:m<=1000) (po:Po E) (hN:N<=100000000) (hx:n + N<=2000000000000000000):Calls Tryz.prog 19 #[pg g,.int .i64 m] w (NumF B w K g E W n N m.toNat (((pks 10 105 E).map Prod.snd).take m.toNat)):=by
 by_cases h1:m < 1
 ·exact top_0 h h1
 ·obtain ⟨k,rfl⟩:∃ k:Nat,m=k:=⟨m.toNat,by omega⟩
  refine (top_x (m:=k) h (by omega) (by omega) po.k10 hN hx).mono ?_
  rintro e w' ⟨v,rfl,U,S,C⟩
  exact ⟨v,_,rfl,by simpa using U,S,by omega,by omega,C⟩
theorem bonded_y {B:Nat} {w:World} {K:Nat->Prop} {g:Nat} {E:Ents} {W:List Ents} {n N:Nat} (h:Sx B w K g E W n N) (po:Po E) (hN:N<=100000000) (hx:n + N<=2000000000000000000):Calls Tryz.prog 21 #[pg g] w (NumF B w K g E W n N N ((pks 11 98 E).map Prod.fst)):=by
 refine (bonded_x h po.k11 hN hx).mono ?_
 rintro e w' ⟨v,rfl,U,S,C⟩
 have h1:(pks 11 98 E).length<=N:=Nat.le_trans (by unfold pks; rw [List.length_map]; exact List.length_filter_le _ _) h.sa.size
 exact ⟨v,_,rfl,U,S,by omega,by omega,C⟩
theorem ops_x {B:Nat} {w:World} {K:Nat->Prop} {g:Nat} {E:Ents} {W:List Ents} {n N:Nat} (h:Sx B w K g E W n N):Calls Tryz.prog 17 #[pg g] w fun e w'=>e=.returned (.int .i64 (n:Nat))/\w'=w:=by
 obtain ⟨F,V,m,Q,jv,T,oj,hX,_,_⟩:=h.sa.open
 exact xops hX
theorem dumpP {B:Nat} {w:World} {K:Nat->Prop} {g:Nat} {E:Ents} {W:List Ents} {n N:Nat} (h:Sx B w K g E W n N) (hN:N<=100000000):Calls Tryz.prog 24 #[pg g] w fun e w'=>∃ v es,e=.returned v/\PrA w' w.heap.size v es/\es.map En.kl2=E/\Zp K w.heap.size w' w'/\Below w.heap.size w w':=by
 refine (sdump h.sa hN).mono ?_
 rintro e w' ⟨v,es,rfl,P,he,B⟩
 exact ⟨v,es,rfl,P,he,zp_new (fun b hb=>h.sa.lt hb),B⟩
theorem pairsP {B:Nat} {w:World} {K:Nat->Prop} {g:Nat} {E:Ents} {W:List Ents} {n N:Nat} {n1 n2:Nat} {u v:Value} {a b:List En} (h:Sx B w K g E W n N) (hN:N<=100000000) (ha:PrA w n1 u a) (hb:PrA w n2 v b) (ea:a.map En.kl2=E) (eb:b.map En.kl2=E):Calls Tryz.prog 23 #[u,v] w fun e w'=>e=.returned (.bool true)/\Below w.heap.size w w':=by
 refine pairs_same ha hb (ea.trans eb.symm) (fun x hx => ?_) ?_
 ·exact h.sa.small (x.kl,x.vl) (by rw [<- ea]; exact List.mem_map.2 ⟨x,hx,rfl⟩)
 ·have h1:=h.sa.size
  rw [<- ea,List.length_map] at h1
  omega
theorem run_max0 {ρ:Operand->Value} {w:World} {o:Oper} {x:Int} (ho:∃ p,o.op=.call { callee:=.builtin .max,args:=#[p,.const (.int .i64 0)],argTypes:=#[3,3] }/\ρ p=.int .i64 x/\ρ (.const (.int .i64 0))=.int .i64 0:=by exact ⟨_,rfl,by kernel_rfl,by kernel_rfl⟩):(execOp ρ o).run Tryz.prog w=.ok (.value (.int .i64 (if x < 0 then 0 else x))) w:=by
 obtain ⟨p,h,h1,h2⟩:=ho
 unfold execOp
 simp only [h,resolve,invoke,builtin,Sem.run_bind,Sem.run_pure,Result.andThen_ok,List.map_toArray,List.map_cons,List.map_nil,h1,h2]
 simp [Builtin.max_,Builtin.max2]
structure StpP (w:World) (ao:Option Addr) (n b o:Nat) (sw sm sv st:Nat->Int):Prop where
 ptr:0 < n->ao=some ⟨b,o,none⟩
 cell:∀ i,i < n->w.cell? ⟨b,o + i * 4,none⟩=some (.int .i64 (sw i))/\w.cell? ⟨b,o + i * 4 + 1,none⟩=some (.int .i64 (sm i))/\w.cell? ⟨b,o + i * 4 + 2,none⟩=some (.int .u64 (sv i))/\w.cell? ⟨b,o + i * 4 + 3,none⟩=some (.int .u64 (st i))
 rng:∀ i,i < n->(0<=sv i/\sv i < 18446744073709551616)/\(0<=st i/\st i < 18446744073709551616)
 few:n<=9223372036854775807
theorem ld_step {w:World} {g o:Nat} {a b c d:Value} (c0:w.cell? ⟨g,o,none⟩=some a) (c1:w.cell? ⟨g,o + 1,none⟩=some b) (c2:w.cell? ⟨g,o + 2,none⟩=some c) (c3:w.cell? ⟨g,o + 3,none⟩=some d):(loadVar 33 ⟨g,o,none⟩).run Tryz.prog w=.ok (.agg #[a,b,c,d]) w:=by go_simp
theorem run_lds {ρ:Operand->Value} {o:Oper} {w W:World} {b off n k:Nat} {ao:Option Addr} {sw sm sv st:Nat->Int} (S:StpP w ao n b off sw sm sv st) (hk:k < n) (B:Below w.heap.size w W) (ho:∃ p,o.op=.load 33 p/\ρ p=.pointer (some ⟨b,off + k * 4,none⟩):=by exact ⟨_,rfl,by kernel_rfl⟩):(execOp ρ o).run Tryz.prog W=.ok (.value (.agg #[.int .i64 (sw k),.int .i64 (sm k),.int .u64 (sv k),.int .u64 (st k)])) W:=by
 obtain ⟨p,h,hp⟩:=ho
 obtain ⟨c0,c1,c2,c3⟩:=S.cell k hk
 have:=ld_step (cellB B c0) (cellB B c1) (cellB B c2) (cellB B c3)
 simp only [execOp,h,hp]
 simp [Instr.loadAt,Instr.sureAddr,Result.andThen,this]
section
variable {B:Nat} {w w':World} {K K' X X':Nat->Prop} {g q:Nat} {E E2:Ents} {W:List Ents} {n N n2:Nat}
theorem Rx.new {x:Nat} (h:Rx B w X q E n) (hx:w.heap.size<=x):¬ X x:=fun hk=>by have:=h.lt hk; omega
theorem Rx.cell {x:Nat} {cs:List Value} {t:TypeId} (h:Rx B w X q E n) (Y:Blk w x cs t) (C:Chg (· = x) w w') (hk:¬ X x) (ht:t≠5):Rx B w' X q E n :=
 h.off C (fun b e hb=>hk ((show b=x from e)▸hb)) (fun b e cs' k=>by have e':b=x:=e; subst e'; exact ht (Y.eq k).2)
theorem dj_sx (r:Rx B w X q E2 n2) (dj:∀ b,K b->¬ X b) (hK:∀ b,K' b->K b\/w.heap.size<=b):∀ b,K' b->¬ X b:=fun b hb hx=>(hK b hb).elim (fun h=>dj b h hx) (fun h=>by have:=r.lt hx; omega)
theorem dj_rx (s:Sx B w K g E W n N) (dj:∀ b,K b->¬ X b) (hX:∀ b,X' b->X b\/w.heap.size<=b):∀ b,K b->¬ X' b:=fun b hb hx=>(hX b hx).elim (dj b hb) (fun h=>by have:=s.sa.lt hb; omega)
theorem Sx.besideR (s:Sx B w K g E W n N) (r:Rx B w X q E2 n2) (hC:Chg X w w') (dj:∀ b,K b->¬ X b):Sx B w' K g E W n N :=
 ⟨s.sa.chg hC (fun b hx hk=>dj b hk hx) (fun b hx cs k=>by obtain ⟨_,_,k',ht⟩:=r.kind b hx; exact ht (k'.eq k).2),Nat.le_trans s.lo hC.size,s.kb⟩
theorem rx_new (Y:Blk w q [.slice none 0 0,.slice none 0 0,.int .i64 0] 30) (hB:B<=w.heap.size/\B<=q):Rx B w (· = q) q [] 0 :=
 ⟨⟨⟨_,_,Y,⟨⟨[],Pq.nil _ _ _,rfl⟩,fun b m c e=>by cases e⟩,⟨.inl ⟨rfl,rfl⟩⟩⟩,rfl,fun b e=>by have e':b=q:=e; subst e'; exact ⟨hB.2,Y.lt⟩,List.Pairwise.nil,fun x h=>by simp at h⟩,fun b e=>by have e':b=q:=e; subst e'; exact ⟨_,_,Y,by decide⟩,hB.1⟩
end
end Pw
end Go.Proofs.YtflenlpabmehoaaGreat
