/- Several texts, joined: KvCb, KvLi, KvCc, KvCd, KvCe, KvCg, KvCf, KvDa, KvDb, KvDc, KvDd, KvDe, KvDf, KvDg, KvDh, KvDi, KvDj, KvDk, KvDl, KvDm. -/
import Derived.Test.YtflenlpabmehoaaGreatJad
import Derived.Lib.SlBytesConst
namespace Go.Proofs.YtflenlpabmehoaaGreat
namespace Kv
open Go.RowKit Go.Lib Pg
attribute [local go_sem] Oper.semAt_some
theorem under_bytes:Tryz.prog.underlying 57=some (.slice 5):=by kernel_rfl
theorem size_al (w:World) (o:Obj):(w.alloc o).heap.size=w.heap.size + 1:=by
 show (w.heap.push o).size=_
 rw [Array.size_push]
end Kv
end Go.Proofs.YtflenlpabmehoaaGreat
namespace Go.Proofs.YtflenlpabmehoaaGreat
namespace Kv
open Go.RowKit Go.Lib Pg
attribute [local go_sem] Oper.semAt_some
structure Ste where
 what:Int
 num:Int
 ka:Option Addr
 kc:Nat
 kl:List Int
 va:Option Addr
 vc:Nat
 vl:List Int
def Ste.kv (s:Ste):Value:=.slice s.ka s.kl.length s.kc
def Ste.vv (s:Ste):Value:=.slice s.va s.vl.length s.vc
structure SteA (w:World) (s:Ste):Prop where
 w1 : -9223372036854775808<=s.what
 w2:s.what<=9223372036854775807
 n1 : -9223372036854775808<=s.num
 n2:s.num<=9223372036854775807
 k:By w s.kv s.kl
 kb:s.kl.length<=140737488355328
 v:By w s.vv s.vl
 vb:s.vl.length<=140737488355328
theorem SteA.keep {w w':World} {s:Ste} (h:SteA w s) (hb:Below w.heap.size w w'):SteA w' s:=⟨h.w1,h.w2,h.n1,h.n2,h.k.keep hb,h.kb,h.v.keep hb,h.vb⟩
structure SteC (w:World) (b o:Nat) (s:Ste):Prop where
 c0:w.cell? ⟨b,o,none⟩=some (.int .i64 s.what)
 c1:w.cell? ⟨b,o + 1,none⟩=some (.int .i64 s.num)
 c2:w.cell? ⟨b,o + 2,none⟩=some s.kv
 c3:w.cell? ⟨b,o + 3,none⟩=some s.vv
theorem SteC.keep {w w':World} {b o:Nat} {s:Ste} (h:SteC w b o s) (hb:Below w.heap.size w w'):SteC w' b o s:=by
 have k:∀ {q:Nat} {v:Value},w.cell? ⟨b,q,none⟩=some v->w'.cell? ⟨b,q,none⟩=some v:=fun {q v} hc=>by
  have hlt:=cell_lt hc
  rw [World.cell?_of_block (w:=w) (hb.block b hlt)]
  exact hc
 exact ⟨k h.c0,k h.c1,k h.c2,k h.c3⟩
structure StesA (w:World) (ao:Option Addr) (n:Nat) (ss:List Ste):Prop where
 len:ss.length=n
 le:n<=9223372036854775807
 get:∀ i s,ss[i]? = some s->∃ b o,ao=some ⟨b,o,none⟩/\SteC w b (o + i * 4) s/\SteA w s
theorem StesA.keep {w w':World} {ao:Option Addr} {n:Nat} {ss:List Ste} (h:StesA w ao n ss) (hb:Below w.heap.size w w'):StesA w' ao n ss :=
 ⟨h.len,h.le,fun i s hs=>by
  obtain ⟨b,o,h1,h2,h3⟩:=h.get i s hs
  exact ⟨b,o,h1,h2.keep hb,h3.keep hb⟩⟩
theorem StesA.at {w:World} {ao:Option Addr} {n:Nat} {ss:List Ste} (h:StesA w ao n ss) {i:Nat} (hi:i < n):∃ s b o,ss[i]? = some s/\ao=some ⟨b,o,none⟩/\SteC w b (o + i * 4) s/\SteA w s:=by
 have hl:=h.len
 have e:ss[i]? = some ss[i]:=List.getElem?_eq_getElem (by omega)
 obtain ⟨b,o,h1,h2,h3⟩:=h.get i _ e
 exact ⟨_,b,o,e,h1,h2,h3⟩
end Kv
end Go.Proofs.YtflenlpabmehoaaGreat
namespace Go.Proofs.YtflenlpabmehoaaGreat
namespace Kv
open Go.RowKit Go.Lib Pg
attribute [local go_sem] Oper.semAt_some
theorem belowD' (w:World):Below w.heap.size w w.drew:=⟨rfl,rfl,rfl,Nat.le_refl _,fun _ _=>rfl⟩
structure KB (w0 w:World) (f:Fm) (g:Nat) (E:Ents) (W:List Ents) (B:Nat):Prop where
 ex:∃ n N,Kn w0 w f g E W n N/\n<=10 * B/\N<=2 * B
def setd (E:Ents) (k v:List Int):Ents:=if setE k v=0 then put E k v else E
theorem KB.keep {w0 w:World} {f:Fm} {g:Nat} {E:Ents} {W:List Ents} {B:Nat} (h:KB w0 w f g E W B) {w':World} (hb:Below w.heap.size w w'):KB w0 w' f g E W B:=by
 obtain ⟨n,N,h,h1,h2⟩:=h.ex
 exact ⟨n,N,h.keep hb,h1,h2⟩
theorem KB.drew {w0 w:World} {f:Fm} {g:Nat} {E:Ents} {W:List Ents} {B:Nat} (h:KB w0 w f g E W B):KB w0 w.drew f g E W B:=h.keep (belowD' w)
theorem KB.below {w0 w:World} {f:Fm} {g:Nat} {E:Ents} {W:List Ents} {B:Nat} (h:KB w0 w f g E W B):Below w0.heap.size w0 w:=by
 obtain ⟨n,N,h,h1,h2⟩:=h.ex
 exact h.below
theorem KB.more {w0 w:World} {f:Fm} {g:Nat} {E:Ents} {W:List Ents} {B:Nat} {B':Nat} (h:KB w0 w f g E W B) (hB:B<=B'):KB w0 w f g E W B':=by
 obtain ⟨n,N,h,h1,h2⟩:=h.ex
 exact ⟨n,N,h,by omega,by omega⟩
theorem KB.rise {w0 w:World} {f:Fm} {g:Nat} {E:Ents} {W:List Ents} {B:Nat} (h:KB w0 w f g E W B):Rise E:=by
 obtain ⟨n,N,h,h1,h2⟩:=h.ex
 exact h.rise
theorem KB.size {w0 w:World} {f:Fm} {g:Nat} {E:Ents} {W:List Ents} {B:Nat} (h:KB w0 w f g E W B):E.length<=2 * B:=by
 obtain ⟨n,N,h,h1,h2⟩:=h.ex
 have:=h.size
 omega
theorem KB.small {w0 w:World} {f:Fm} {g:Nat} {E:Ents} {W:List Ents} {B:Nat} (h:KB w0 w f g E W B):∀ x∈E,x.1.length<=1000000000/\x.2.length<=1000000000:=by
 obtain ⟨n,N,h,h1,h2⟩:=h.ex
 obtain ⟨K,h⟩:=h.ex
 exact h.sa.small
def chgd (E:Ents) (what:Int) (k v:List Int):Ents:=if what.tmod 2=0 then setd E k v else rem E k
end Kv
end Go.Proofs.YtflenlpabmehoaaGreat
namespace Go.Proofs.YtflenlpabmehoaaGreat
namespace Kv
open Go.RowKit Go.Lib Pg
structure K2 (w0 w:World) (f:Fm) (g:Nat) (E:Ents) (W:List Ents) (g2:Nat) (E2:Ents) (W2:List Ents) (B:Nat):Prop where
 ex:∃ n2 N2,KB w0 w (f.st ⟨g2,E2,W2,n2,N2⟩) g E W B/\n2<=10 * B/\N2<=2 * B
theorem K2.keep {w0 w w':World} {f:Fm} {g g2:Nat} {E E2:Ents} {W W2:List Ents} {B:Nat} (h:K2 w0 w f g E W g2 E2 W2 B) (hb:Below w.heap.size w w'):K2 w0 w' f g E W g2 E2 W2 B:=by
 obtain ⟨n2,N2,h,h1,h2⟩:=h.ex
 exact ⟨n2,N2,h.keep hb,h1,h2⟩
theorem K2.drew {w0 w:World} {f:Fm} {g g2:Nat} {E E2:Ents} {W W2:List Ents} {B:Nat} (h:K2 w0 w f g E W g2 E2 W2 B):K2 w0 w.drew f g E W g2 E2 W2 B:=h.keep (belowD' w)
theorem K2.below {w0 w:World} {f:Fm} {g g2:Nat} {E E2:Ents} {W W2:List Ents} {B:Nat} (h:K2 w0 w f g E W g2 E2 W2 B):Below w0.heap.size w0 w:=by
 obtain ⟨n2,N2,h,h1,h2⟩:=h.ex
 exact h.below
theorem K2.more {w0 w:World} {f:Fm} {g g2:Nat} {E E2:Ents} {W W2:List Ents} {B B':Nat} (h:K2 w0 w f g E W g2 E2 W2 B) (hB:B<=B'):K2 w0 w f g E W g2 E2 W2 B':=by
 obtain ⟨n2,N2,h,h1,h2⟩:=h.ex
 exact ⟨n2,N2,h.more hB,by omega,by omega⟩
theorem K2.size {w0 w:World} {f:Fm} {g g2:Nat} {E E2:Ents} {W W2:List Ents} {B:Nat} (h:K2 w0 w f g E W g2 E2 W2 B):E.length<=2 * B:=by
 obtain ⟨n2,N2,h,h1,h2⟩:=h.ex
 exact h.size
theorem K2.small {w0 w:World} {f:Fm} {g g2:Nat} {E E2:Ents} {W W2:List Ents} {B:Nat} (h:K2 w0 w f g E W g2 E2 W2 B):∀ x∈E,x.1.length<=1000000000/\x.2.length<=1000000000:=by
 obtain ⟨n2,N2,h,h1,h2⟩:=h.ex
 exact h.small
end Kv
end Go.Proofs.YtflenlpabmehoaaGreat
namespace Go.Proofs.YtflenlpabmehoaaGreat
namespace Kv
open Go.RowKit Go.Lib Pg
theorem Kn.drop {w0 w:World} {f:Fm} {g:Nat} {E:Ents} {W:List Ents} {n N:Nat} {v:Value} {l:List Int} (h:Kn w0 w (f.by v l) g E W n N):Kn w0 w f g E W n N:=by
 obtain ⟨K,h⟩:=h.ex
 exact ⟨K,h.sa,h.kz,fun p hp=>h.bys p (List.mem_cons_of_mem _ hp),h.prs,h.oth,h.bel⟩
theorem K2.drop {w0 w:World} {f:Fm} {g g2:Nat} {E E2:Ents} {W W2:List Ents} {B:Nat} {v:Value} {l:List Int} (h:K2 w0 w (f.by v l) g E W g2 E2 W2 B):K2 w0 w f g E W g2 E2 W2 B:=by
 obtain ⟨n2,N2,h,h1,h2⟩:=h.ex
 obtain ⟨n,N,h,h3,h4⟩:=h.ex
 exact ⟨n2,N2,⟨n,N,Kn.drop (v:=v) (l:=l) h,h3,h4⟩,h1,h2⟩
end Kv
end Go.Proofs.YtflenlpabmehoaaGreat
namespace Go.Proofs.YtflenlpabmehoaaGreat
namespace Kv
open Go.RowKit Go.Lib Pg
abbrev good (s:Ste):Prop:=¬ s.what.tmod 2=0\/(1<=s.kl.length/\s.kl.length<=64/\s.vl.length<=4096)
def run (ss : List Ste) : Nat → Ents
  | 0 => []
  | j + 1 => match ss[j]? with
    | some s => chgd (run ss j) s.what s.kl s.vl
    | none => run ss j
theorem KB.drop {w0 w:World} {f:Fm} {g:Nat} {E:Ents} {W:List Ents} {B:Nat} {v:Value} {l:List Int} (h:KB w0 w (f.by v l) g E W B):KB w0 w f g E W B:=by
 obtain ⟨n,N,h,h3,h4⟩:=h.ex
 exact ⟨n,N,h.drop,h3,h4⟩
end Kv
end Go.Proofs.YtflenlpabmehoaaGreat
namespace Go.Proofs.YtflenlpabmehoaaGreat
namespace Kv
open Go.RowKit Go.Lib Pg
attribute [local go_sem] Oper.semAt_some
structure Pq (w:World) (B:Nat) (D:Nat->Prop) (v:Value) (es:List En):Prop where
 ex:(v=.slice none 0 0/\es=[])\/∃ b c,v=.slice (some ⟨b,0,none⟩) es.length c/\B<=b/\Rw w 115 2 b es.length c (flat es)
 ents:∀ e∈es,EnA w D e
theorem Pq.shape {w:World} {B:Nat} {D:Nat->Prop} {v:Value} {es:List En} (h:Pq w B D v es):∃ ao c,v=.slice ao es.length c:=by
 rcases h.ex with ⟨rfl,rfl⟩ | ⟨b,c,rfl,_⟩
 ·exact ⟨none,0,rfl⟩
 ·exact ⟨_,c,rfl⟩
theorem Pq.keep {w w':World} {B:Nat} {D:Nat->Prop} {v:Value} {es:List En} (h:Pq w B D v es) (hb:Below w.heap.size w w'):Pq w' B D v es :=
 ⟨h.ex.imp id (fun ⟨b,c,e,hl,hR⟩=>⟨b,c,e,hl,hR.keep hb⟩),fun e he=>(h.ents e he).keep hb⟩
theorem Pq.nil (w:World) (B:Nat) (D:Nat->Prop):Pq w B D (.slice none 0 0) []:=⟨.inl ⟨rfl,rfl⟩,fun _ h=>by simp at h⟩
theorem Pq.a {w:World} {B B0:Nat} {D:Nat->Prop} {v:Value} {es:List En} (h:Pq w B D v es) (hB:B0<=B) (hD:∀ b,b < w.heap.size->D b->B0<=b):PrA w B0 v es :=
 ⟨h.ex.imp id (fun ⟨b,c,e,hl,hR⟩=>⟨b,c,e,by omega,hR⟩),fun e he=>(h.ents e he).mono hD⟩
theorem Pq.spr {w w':World} {B B1:Nat} {D:Nat->Prop} {v:Value} {es:List En} (h:Pq w B D v es) (hS:Spr B1 w w') (hb:∀ b c,v=.slice (some ⟨b,0,none⟩) es.length c->b < B1):Pq w' B D v es :=
 ⟨h.ex.imp id (fun ⟨b,c,e,hl,hR⟩=>⟨b,c,e,hl,hR.chg hS.chg (fun ⟨h1,_⟩=>by have:=hb b c e; omega)⟩),fun e he=>⟨hS.ob (h.ents e he).k,hS.ob (h.ents e he).v⟩⟩
theorem Pq.cells {w:World} {B p n c:Nat} {D:Nat->Prop} {es:List En} (h:Pq w B D (.slice (some ⟨p,0,none⟩) n c) es) {k:Nat} {e:En} (hk:es[k]? = some e):w.cell? ⟨p,k * 2,none⟩=some e.kv/\w.cell? ⟨p,k * 2 + 1,none⟩=some e.vv/\p < w.heap.size:=by
 rcases h.ex with ⟨e1,rfl⟩ | ⟨b,c',e1,hl,hR⟩
 ·simp at hk
 ·cases e1
  obtain ⟨h1,h2⟩:=flat_at hk
  exact ⟨hR.cell h1,hR.cell h2,hR.lt⟩
theorem Pq.some {w:World} {B n c:Nat} {ao:Option Addr} {D:Nat->Prop} {es:List En} (h:Pq w B D (.slice ao n c) es) {k:Nat} {e:En} (hk:es[k]? = some e):∃ p,ao=Option.some ⟨p,0,none⟩:=by
 rcases h.ex with ⟨_,e⟩ | ⟨p,c',e,_⟩
 ·subst e; simp at hk
 ·cases e; exact ⟨p,rfl⟩
theorem app_pq {w:World} {B:Nat} {D:Nat->Prop} {ov:Value} {es:List En} {e:En} {a:Addr} (ty:TypeId) (h:Pq w B D ov es) (hB:B<=w.heap.size) (he:EnA w D e) (hl:es.length<=2000000000) (c0:w.cell? (a.add 0)=some e.kv) (c1:w.cell? (a.add 1)=some e.vv) :
  ∃ ov' w',(Builtin.append_ #[27,27] ty #[ov,.slice (some a) 1 1]).run Tryz.prog w=.ok ov' w'/\Pq w' B D ov' (es ++ [e])/\Spr B w w':=by
 have hnews:∀ j u,[e.kv,e.vv][j]? = some u->w.cell? (a.add j)=some u:=fun j u hj=>by
  match j with
  | 0=>simp at hj; rw [<- hj]; exact c0
  | 1=>simp at hj; rw [<- hj]; exact c1
  | k + 2=>simp at hj
 rcases h.ex with ⟨rfl,rfl⟩ | ⟨b,c,rfl,hb,hR⟩
 ·obtain ⟨c',w',hr,hR,hw⟩:=app_nil (w:=w) KQ ty a 1 1 [e.kv,e.vv] rfl hnews (by omega) (by omega) (by omega)
  refine ⟨_,w',hr,⟨.inr ⟨_,c',rfl,hB,hR⟩,fun x hx => ?_⟩,Spr.of hw⟩
  simp at hx
  subst hx
  exact he.keep hw
 ·obtain ⟨ak,nk,hk1⟩:=he.k.shape
  obtain ⟨av,nv,hv1⟩:=he.v.shape
  obtain ⟨b',c',w',hr,hb',hR',hw⟩:=app_row (w:=w) KQ ty hR a 1 1 [e.kv,e.vv] rfl hnews (by rw [hk1,hv1]; simp [Value.oneCell']) (by omega) (by omega)
  obtain ⟨cs0,k0⟩:=hR.kind
  have hS:Spr B w w':=⟨hw.mono (fun x _ ex=>⟨ex▸hb,cs0,ex▸k0⟩)⟩
  refine ⟨_,w',hr,⟨.inr ⟨b',c',by simp,by rcases hb' with rfl | rfl<;>assumption,by rw [flat_append,List.length_append]; exact hR'⟩,fun x hx => ?_⟩,hS⟩
  have hx':EnA w D x:=by
   rcases List.mem_append.1 hx with hx | hx
   ·exact h.ents x hx
   ·simp at hx; rw [hx]; exact he
  exact ⟨hS.ob hx'.k,hS.ob hx'.v⟩
theorem Spr_below {B:Nat} {w w':World} (h:Spr B w w') (hB:B<=w.heap.size):Below B w w':=h.chg.below (fun _ h=>h.1) hB
theorem lit2 (w:World) (u v:Value) (t:TypeId):(w.alloc (.cells #[u,v] t)).cell? ((⟨w.heap.size,0,none⟩:Addr).add 0)=some u/\(w.alloc (.cells #[u,v] t)).cell? ((⟨w.heap.size,0,none⟩:Addr).add 1)=some v:=by
 have h:=blk_new w [u,v] t
 exact ⟨h.cell (i:=0) rfl,h.cell (i:=1) rfl⟩
theorem app_copy {w:World} {B:Nat} {D:Nat->Prop} {ov:Value} {es:List En} {e:En} (h:Pq w B D ov es) (hB:B<=w.heap.size) (he:EnA w D e) (hl:es.length<=2000000000) :
  ∃ ov' w',(Builtin.append_ #[27,27] 27 #[ov,.slice (some ⟨w.heap.size,0,none⟩) 1 1]).run Tryz.prog (w.alloc (.cells #[e.kv,e.vv] 115))=.ok ov' w'/\Pq w' B D ov' (es ++ [e])/\Below B w w':=by
 have hb:=below_alloc w (.cells #[e.kv,e.vv] 115)
 obtain ⟨c0,c1⟩:=lit2 w e.kv e.vv 115
 obtain ⟨ov',w',hr,hP,hS⟩:=app_pq (a:=⟨w.heap.size,0,none⟩) 27 (h.keep hb) (Nat.le_trans hB hb.size) (he.keep hb) hl c0 c1
 exact ⟨ov',w',hr,hP,(hb.mono hB).trans (Spr_below hS (Nat.le_trans hB hb.size))⟩
theorem KnK.stepQ {w0 w w':World} {f:Fm} {K:Nat->Prop} {g:Nat} {E F:Ents} {W:List Ents} {n N:Nat} {v:Value} {es:List En} (h:KnK w0 w f K g E W n N) (B:Below w.heap.size w w') (P:PrA w' w0.heap.size v es) (he:es.map En.kl2=F) (hb:∀ b m c,v=.slice (some ⟨b,0,none⟩) m c->w.heap.size<=b):KnK w0 w' (f.pr v F) K g E W n N:=by
 have h':=h.keep B
 refine ⟨h'.sa,fun b hk=>⟨(h.kz b hk).1,?_⟩,h'.bys,fun p hp => ?_,fun s hs' => ?_,h'.bel⟩
 ·rintro ⟨p,hp,m,c,e⟩
  rcases List.mem_cons.1 hp with rfl | hp
  ·have:=hb b m c e
   have:=h.sa.lt hk
   omega
  ·exact (h.kz b hk).2 ⟨p,hp,m,c,e⟩
 ·rcases List.mem_cons.1 hp with rfl | hp
  ·exact ⟨es,P,he⟩
  ·exact h'.prs p hp
 ·obtain ⟨J,hJ,hj⟩:=h.oth s hs'
  refine ⟨J,hJ.keep B,fun b hb'=>⟨(hj b hb').1,?_,(hj b hb').2.2⟩⟩
  rintro ⟨p,hp,m,c,e⟩
  rcases List.mem_cons.1 hp with rfl | hp
  ·have:=hb b m c e
   have:=hJ.lt hb'
   omega
  ·exact (hj b hb').2.1 ⟨p,hp,m,c,e⟩
theorem Kn.pairs {w0 w:World} {f:Fm} {g:Nat} {E:Ents} {W:List Ents} {n N:Nat} {w':World} {F:Ents} {v:Value} {es:List En} (h:Kn w0 w f g E W n N) (B:Below w.heap.size w w') (P:PrA w' w0.heap.size v es) (he:es.map En.kl2=F) (hb:∀ b m c,v=.slice (some ⟨b,0,none⟩) m c->w.heap.size<=b):Kn w0 w' (f.pr v F) g E W n N:=by
 obtain ⟨K,h⟩:=h.ex
 exact ⟨K,h.stepQ B P he hb⟩
theorem Kn.small {w0 w:World} {f:Fm} {g:Nat} {E:Ents} {W:List Ents} {n N:Nat} (h:Kn w0 w f g E W n N):∀ x∈E,x.1.length<=1000000000/\x.2.length<=1000000000:=by
 obtain ⟨K,h⟩:=h.ex
 exact h.sa.small
end Kv
end Go.Proofs.YtflenlpabmehoaaGreat
namespace Go.Proofs.YtflenlpabmehoaaGreat
namespace Kv
open Go.RowKit Go.Lib Pg
attribute [local go_sem] Oper.semAt_some
def cnt (E:Ents) (k:List Int):Nat:=(E.filter (fun x=>decide (Lt x.1 k))).length
theorem cnt_eq {E:Ents} {k:List Int} {j:Nat} (hj:j<=E.length) (h1:∀ i x,i < j->E[i]? = some x->Lt x.1 k) (h2:∀ i x,j<=i->E[i]? = some x->¬ Lt x.1 k):cnt E k=j:=by
 unfold cnt
 have e:E=E.take j ++ E.drop j:=(List.take_append_drop j E).symm
 rw [e,List.filter_append,filter_id,filter_no,List.append_nil,List.length_take,Nat.min_eq_left hj]
 ·intro x hx
  obtain ⟨i,hi⟩:=List.getElem?_of_mem hx
  rw [List.getElem?_drop] at hi
  exact decide_eq_false (h2 _ x (by omega) hi)
 ·intro x hx
  obtain ⟨i,hi⟩:=List.getElem?_of_mem hx
  have hl:=(List.getElem?_eq_some_iff.1 hi).1
  rw [List.length_take] at hl
  rw [List.getElem?_take,if_pos (by omega)] at hi
  exact decide_eq_true (h1 i x (by omega) hi)
theorem cnt_le (E:Ents) (k:List Int):cnt E k<=E.length:=List.length_filter_le _ _
theorem cnt_look {E:Ents} (h:Rise E) (k:List Int):(look E k).isSome=(match E[cnt E k]? with | some x=>decide (x.1=k) | none=>false)/\(∀ x,E[cnt E k]? = some x->x.1=k->look E k=some x.2)/\put E k=(fun v=>E.take (cnt E k) ++ (k,v) :: E.drop (cnt E k + if (look E k).isSome then 1 else 0))/\rem E k=E.take (cnt E k) ++ E.drop (cnt E k + if (look E k).isSome then 1 else 0):=by
 obtain ⟨X,Y,c,⟨rfl,hl⟩ | ⟨y,rfl,hl⟩⟩:=h.cut k
 ·have hc:cnt (X ++ Y) k=X.length:=by
   unfold cnt
   rw [List.filter_append,filter_id (fun x hx=>decide_eq_true (c.lo x hx)),filter_no (fun x hx=>decide_eq_false (fun h=>(c.hi x hx).not h)),List.append_nil]
  rw [hc,hl]
  refine ⟨?_,fun x hx e => ?_,?_,?_⟩
  ·rw [List.getElem?_append_right (Nat.le_refl _),Nat.sub_self]
   cases Y with
   | nil=>rfl
   | cons y Y=>simp [c.ny y List.mem_cons_self]
  ·rw [List.getElem?_append_right (Nat.le_refl _),Nat.sub_self] at hx
   exact absurd e (c.ny x (List.mem_of_getElem? hx))
  ·funext v
   rw [c.put0]
   simp
  ·rw [c.rem0]
   simp
 ·have hc:cnt (X ++ (k,y) :: Y) k=X.length:=by
   unfold cnt
   rw [List.filter_append,filter_id (fun x hx=>decide_eq_true (c.lo x hx)),List.filter_cons,if_neg (by simp [lt_irrefl]),filter_no (fun x hx=>decide_eq_false (fun h=>(c.hi x hx).not h)),List.append_nil]
  rw [hc,hl]
  refine ⟨?_,fun x hx _ => ?_,?_,?_⟩
  ·rw [List.getElem?_append_right (Nat.le_refl _),Nat.sub_self]
   simp
  ·rw [List.getElem?_append_right (Nat.le_refl _),Nat.sub_self] at hx
   simp at hx
   rw [<- hx]
  ·funext v
   rw [c.put1]
   simp
  ·rw [c.rem1]
   simp
theorem rise_at {es:List En} (h:Rise (es.map En.kl2)) {i j:Nat} {a b:En} (hij:i < j) (ha:es[i]? = some a) (hb:es[j]? = some b):Lt a.kl b.kl:=by
 unfold Rise at h
 rw [List.pairwise_map] at h
 obtain ⟨h1,e1⟩:=List.getElem?_eq_some_iff.1 ha
 obtain ⟨h2,e2⟩:=List.getElem?_eq_some_iff.1 hb
 have:=List.pairwise_iff_getElem.1 h i j h1 h2 hij
 rw [e1,e2] at this
 exact this
theorem lo_part {es:List En} (h:Rise (es.map En.kl2)) {k:List Int} {m:Nat} {x:En} (hx:es[m]? = some x) (hl:Lt x.kl k) {i:Nat} {y:En} (hi:i < m + 1) (hy:es[i]? = some y):Lt y.kl k:=by
 by_cases e:i=m
 ·subst e
  rw [hx] at hy
  cases hy
  exact hl
 ·exact Lt.trans (rise_at h (by omega) hy hx) hl
theorem hi_part {es:List En} (h:Rise (es.map En.kl2)) {k:List Int} {m:Nat} {x:En} (hx:es[m]? = some x) (hl:¬ Lt x.kl k) {i:Nat} {y:En} (hi:m<=i) (hy:es[i]? = some y):¬ Lt y.kl k:=by
 by_cases e:m=i
 ·subst e
  rw [hx] at hy
  cases hy
  exact hl
 ·exact fun hc=>hl (Lt.trans (rise_at h (by omega) hx hy) hc)
theorem map_at {es:List En} {i:Nat} {z:KV} (h:(es.map En.kl2)[i]? = some z):∃ x,es[i]? = some x/\z=x.kl2:=by
 rw [List.getElem?_map] at h
 cases e:es[i]? with
 | none=>rw [e] at h; cases h
 | some x=>rw [e] at h; cases h; exact ⟨x,rfl,rfl⟩
set_option maxHeartbeats 2000000 in
set_option maxRecDepth 100000 in
theorem rplace {w:World} {B q m:Nat} {D:Nat->Prop} {lv wv kv:Value} {nd:Int} {es:List En} {k:List Int} (hq:Blk w q [lv,wv,.int .i64 nd] 30) (hL:Pq w B D lv es) (hr:Rise (es.map En.kl2)) (hk:By w kv k) (hkl:k.length<=1000000000) (hs:∀ e∈es,e.kl.length<=1000000000) (hm:es.length=m) (hmb:m<=1000000) :
  Calls Tryz.prog 71 #[.pointer (some ⟨q,0,none⟩),kv] w fun e w'=>e=.returned (.tuple #[.int .i64 (cnt (es.map En.kl2) k),.bool (look (es.map En.kl2) k).isSome])/\Below w.heap.size w w':=by
 obtain ⟨ao,c,rfl⟩:=hL.shape
 obtain ⟨ka,kc,rfl,-⟩:=id hk.ex
 rw [hm] at hL hq
 have HM:=hid3 hm
 have hc0:=hq.drew.cell (i:=0) rfl
 have HQ:=hid3 hq
 have HL:=hid3 hL
 have HR:=hid3 hr
 have HK:=hid3 hk
 have HSm:=hid3 hs
 have hql:=hid3 hq.lt
 clear hq hL hr hk hs hm
 obtain ⟨kn,hkn⟩:∃ kn,Hid (k.length=kn):=⟨_,rfl⟩
 rw [hkn.out] at HK hkl ⊢
 go_enter Tryz.func71,Tryz.ntmps71
 go_wp2_with fail
 go_region
 go_wp2_with fail
 go_loopw [6,7] (fun tl th wr=>∃ lo hi:Nat,lo<=hi/\hi<=m/\tl=.int .i64 lo/\th=.int .i64 hi/\Hid (∀ i x,i < lo->es[i]? = some x->Lt x.kl k)/\Hid (∀ i x,hi<=i->es[i]? = some x->¬ Lt x.kl k)/\Hid (Below w.heap.size w wr)) (fun tl th _=>(intOf th).toNat - (intOf tl).toNat)
 case atStart=>exact ⟨0,m,Nat.zero_le _,Nat.le_refl _,rfl,rfl,fun i x h=>absurd h (Nat.not_lt_zero _),fun i x h hx=>absurd (List.getElem?_eq_some_iff.1 hx).1 (by have:=HM.out; omega),⟨rfl,rfl,rfl,Nat.le_refl _,fun _ _=>rfl⟩⟩
 case round =>
  obtain ⟨lo,hi,hlh,him,rfl,rfl,H1,H2,HB⟩:=hrel
  have hc1:=(HQ.out.keep HB.out).cell (i:=0) rfl
  by_cases hlt:lo < hi
  ·obtain ⟨md,hmd⟩:∃ md,Hid ((lo + hi) / 2=md):=⟨_,rfl⟩
   have hm1:lo<=md:=by rw [<- hmd.out]; omega
   have hm2:md < hi:=by rw [<- hmd.out]; omega
   have e1:((lo:Int) + hi) / 2=md:=by have:=hmd.out; omega
   have e2:((lo:Int) + hi).tdiv 2=md:=by rw [Int.tdiv_eq_ediv_of_nonneg (by omega)]; exact e1
   obtain ⟨x,hx⟩:∃ x,Hid (es[md]? = some x):=⟨es[md]'(by have:=HM.out; omega),List.getElem?_eq_getElem _⟩
   obtain ⟨p,rfl⟩:=HL.out.some hx.out
   have X:=(HL.out.keep HB.out).ents x (List.mem_of_getElem? hx.out)
   obtain ⟨c1,_,_⟩:=(HL.out.keep HB.out).cells hx.out
   obtain ⟨a1,n1,h1⟩:=X.k.shape
   rw [h1] at c1
   have hY:=X.k.by
   rw [h1] at hY
   have HY:=hid3 hY
   have hxl:=HSm.out x (List.mem_of_getElem? hx.out)
   obtain ⟨xn,hxn⟩:∃ xn,Hid (x.kl.length=xn):=⟨_,rfl⟩
   rw [hxn.out] at c1 HY hxl
   have hl0:(lo:Int) < hi:=by omega
   have hl1:(md:Int) < m:=by omega
   clear X hY h1
   have hle:=less_by HY.out (HK.out.keep HB.out) (by rw [hxn.out]; omega)
   by_cases hL:Lt x.kl k
   ·rw [decide_eq_true hL] at hle
    have HL':=hid3 hL
    clear hL
    go_wp2_with (go_at_call 132; go_must (refine hle.mono ?_); rintro e w7 ⟨rfl,B7⟩; clear hle)
    go_roundw
    case rel=>exact ⟨md + 1,hi,by omega,him,by go_num,rfl,(fun i y h hy=>lo_part HR.out hx.out HL'.out h hy),H2,HB.out.trans (B7.mono HB.out.size)⟩
    case measure=>simp [intOf]; omega
   ·rw [decide_eq_false hL] at hle
    have HL':=hid3 hL
    clear hL
    go_wp2_with (go_at_call 132; go_must (refine hle.mono ?_); rintro e w7 ⟨rfl,B7⟩; clear hle)
    go_roundw
    case rel=>exact ⟨lo,md,by omega,by omega,rfl,by go_num,H1,(fun i y h hy=>hi_part HR.out hx.out HL'.out h hy),HB.out.trans (B7.mono HB.out.size)⟩
    case measure=>simp [intOf]; omega
  ·obtain rfl:lo=hi:=by omega
   have hcn:=hid3 (show cnt (es.map En.kl2) k=lo from cnt_eq (by rw [List.length_map,HM.out]; exact him) (fun i z h hz=>by obtain ⟨x,hx,rfl⟩:=map_at hz; exact H1.out i x h hx) (fun i z h hz=>by obtain ⟨x,hx,rfl⟩:=map_at hz; exact H2.out i x h hx))
   have hlk:=(cnt_look HR.out k).1
   rw [hcn.out] at hlk
   by_cases hlm:lo < m
   ·obtain ⟨x,hx⟩:∃ x,Hid (es[lo]? = some x):=⟨es[lo]'(by have:=HM.out; omega),List.getElem?_eq_getElem _⟩
    have e9:(es.map En.kl2)[lo]? = some x.kl2:=by rw [List.getElem?_map,hx.out]; rfl
    rw [e9] at hlk
    have HLK:=hid3 (show (look (es.map En.kl2) k).isSome=decide (x.kl=k) from hlk)
    clear hlk e9
    obtain ⟨p,rfl⟩:=HL.out.some hx.out
    have X:=(HL.out.keep HB.out).ents x (List.mem_of_getElem? hx.out)
    obtain ⟨c1,_,_⟩:=(HL.out.keep HB.out).cells hx.out
    obtain ⟨a1,n1,h1⟩:=X.k.shape
    rw [h1] at c1
    have hY:=X.k.by
    rw [h1] at hY
    have HY:=hid3 hY
    have hxl:=HSm.out x (List.mem_of_getElem? hx.out)
    obtain ⟨xn,hxn⟩:∃ xn,Hid (x.kl.length=xn):=⟨_,rfl⟩
    rw [hxn.out] at c1 HY hxl
    have hl1:(lo:Int) < m:=by omega
    have hby:=Pg.bytes_any HY.out (HK.out.keep HB.out) (by rw [hxn.out]; omega) (by rw [hkn.out]; omega)
    obtain ⟨bb,hbb⟩:∃ bb,Hid (decide (x.kl=k)=bb):=⟨_,rfl⟩
    rw [hbb.out] at hby
    clear X hY h1
    go_wp2_with (go_at_call 60; go_must (refine hby.mono ?_); rintro e w7 ⟨rfl,B7⟩; clear hby)
    go_ret2
    rw [hcn.out,HLK.out,hbb.out]
    exact ⟨rfl,HB.out.trans (B7.mono HB.out.size)⟩
   ·have e9:(es.map En.kl2)[lo]? = none:=List.getElem?_eq_none (by rw [List.length_map,HM.out]; omega)
    rw [e9] at hlk
    have HLK:=hid3 (show (look (es.map En.kl2) k).isSome=false from hlk)
    clear hlk e9
    obtain rfl:lo=m:=by omega
    go_wp2
    go_ret2
    rw [hcn.out,HLK.out]
    exact ⟨rfl,HB.out⟩
set_option maxHeartbeats 2000000 in
set_option maxRecDepth 100000 in
theorem rbegins {w:World} {ka pa:Option Addr} {n c m d:Nat} {k p:List Int} (hk:By w (.slice ka n c) k) (hp:By w (.slice pa m d) p) (_hkl:k.length<=1000000000) (hpl:p.length<=1000000000) :
  Calls Tryz.prog 167 #[.slice ka n c,.slice pa m d] w fun e w'=>e=.returned (.bool (decide (p <+: k)))/\Below w.heap.size w w':=by
 obtain ⟨h1,h2,_⟩:=By.lens hk
 obtain ⟨h3,_,_⟩:=By.lens hp
 have HK:=hid3 hk
 have HP:=hid3 hp
 rw [h3] at hpl
 have H1:=hid3 h1
 have H3:=hid3 h3
 clear hk hp h1 h3
 by_cases hl:m<=n
 ·have hl':(m:Int)<=n:=by omega
  have u:=Pg.bytes_any (By.take HK.out m hl) HP.out (by rw [List.length_take]; have:=H1.out; omega) (by rw [H3.out]; exact hpl)
  have he:=hid3 (show decide (k.take m=p)=decide (p <+: k) by rw [decide_eq_decide,List.prefix_iff_eq_take,H3.out]; exact eq_comm)
  rw [he.out] at u
  obtain ⟨r,hr⟩:∃ r,Hid (decide (p <+: k)=r):=⟨_,rfl⟩
  rw [hr.out] at u ⊢
  go_enter Tryz.func167,Tryz.ntmps167
  go_wp2_with (go_at_call 60; go_must (refine u.mono ?_); rintro e w7 ⟨rfl,B7⟩; clear u)
  go_ret
  exact ⟨rfl,B7⟩
 ·have hl':((m:Int)<=n)=False:=eq_false (by omega)
  have hf:decide (p <+: k)=false:=decide_eq_false (fun h=>hl (by have:=h.length_le; rw [H1.out,H3.out] at this; exact this))
  rw [hf]
  go_enter Tryz.func167,Tryz.ntmps167
  go_wp2
  go_ret
  exact ⟨rfl,Below.refl _ _⟩
end Kv
end Go.Proofs.YtflenlpabmehoaaGreat
namespace Go.Proofs.YtflenlpabmehoaaGreat
namespace Kv
open Go.RowKit Go.Lib Pg
attribute [local go_sem] Oper.semAt_some
structure Pl (w:World) (z:Nat->Prop) (X:Nat->Prop) (v:Value) (F:Ents):Prop where
 ex:∃ es,Pq w 0 z v es/\es.map En.kl2=F
 blk:∀ b m c,v=.slice (some ⟨b,0,none⟩) m c->X b
theorem Pl.chg {w w':World} {z:Nat->Prop} {X Y:Nat->Prop} {v:Value} {F:Ents} (h:Pl w z X v F) (hc:Chg Y w w') (h1:∀ b,Y b->X b->∃ cs t,Blk w b cs t/\t≠115) (h2:∀ b,Y b->∀ cs,¬ Blk w b cs 5):Pl w' z X v F:=by
 obtain ⟨es,P,e⟩:=h.ex
 refine ⟨⟨es,⟨P.ex.imp id ?_,fun e he=>(P.ents e he).off fun b hb hk=>hc.same b hb fun hY=>by obtain ⟨cs,k⟩:=hk; exact h2 b hY cs k⟩,e⟩,h.blk⟩
 rintro ⟨b,c,ev,hl,hR⟩
 refine ⟨b,c,ev,hl,hR.chg hc fun hY => ?_⟩
 obtain ⟨cs,t,hk,ht⟩:=h1 b hY (h.blk b _ _ ev)
 obtain ⟨ds,kd⟩:=hR.kind
 exact ht (hk.eq kd).2
theorem Pl.mono {w:World} {z:Nat->Prop} {X X':Nat->Prop} {v:Value} {F:Ents} (h:Pl w z X v F) (hX:∀ b,X b->X' b):Pl w z X' v F:=⟨h.ex,fun b m c e=>hX b (h.blk b m c e)⟩
theorem Pl.keep {w w':World} {z:Nat->Prop} {X:Nat->Prop} {v:Value} {F:Ents} (h:Pl w z X v F) (hb:Below w.heap.size w w'):Pl w' z X v F:=by
 obtain ⟨es,P,e⟩:=h.ex
 exact ⟨⟨es,P.keep hb,e⟩,h.blk⟩
structure WsA (w:World) (z:Nat->Prop) (X:Nat->Prop) (wv:Value) (W:List Ents):Prop where
 ex:(wv=.slice none 0 0/\W=[])\/∃ b c vs,wv=.slice (some ⟨b,0,none⟩) W.length c/\X b/\Rw w 27 1 b W.length c vs/\∀ (i:Nat) v F,vs[i]? = some v->W.reverse[i]? = some F->Pl w z X v F
theorem WsA.shape {w:World} {z:Nat->Prop} {X:Nat->Prop} {wv:Value} {W:List Ents} (h:WsA w z X wv W):∃ ao c,wv=.slice ao W.length c:=by
 rcases h.ex with ⟨rfl,rfl⟩ | ⟨b,c,vs,rfl,_⟩
 ·exact ⟨none,0,rfl⟩
 ·exact ⟨_,c,rfl⟩
theorem WsA.chg {w w':World} {z:Nat->Prop} {X Y:Nat->Prop} {wv:Value} {W:List Ents} (h:WsA w z X wv W) (hc:Chg Y w w') (h1:∀ b,Y b->X b->∃ cs t,Blk w b cs t/\t≠115/\t≠27) (h2:∀ b,Y b->∀ cs,¬ Blk w b cs 5):WsA w' z X wv W:=by
 refine ⟨h.ex.imp id ?_⟩
 rintro ⟨b,c,vs,e,hX,hR,hv⟩
 refine ⟨b,c,vs,e,hX,hR.chg hc fun hY => ?_,fun i v F h3 h4=>(hv i v F h3 h4).chg hc (fun b hy hx=>by obtain ⟨cs,t,k,t1,_⟩:=h1 b hy hx; exact ⟨cs,t,k,t1⟩) h2⟩
 obtain ⟨cs,t,hk,_,ht⟩:=h1 b hY hX
 obtain ⟨ds,kd⟩:=hR.kind
 exact ht (hk.eq kd).2
structure RS (w:World) (z:Nat->Prop) (X:Nat->Prop) (q:Nat) (E:Ents) (W:List Ents) (n:Nat):Prop where
 ex:∃ lv wv,Blk w q [lv,wv,.int .i64 n] 30/\Pl w z X lv E/\WsA w z X wv W
 xq:X q
 xz:∀ b,X b->z b/\b < w.heap.size
 rise:Rise E
 small:∀ x∈E,x.1.length<=1000000000/\x.2.length<=1000000000
theorem RS.chg {w w':World} {z:Nat->Prop} {q n:Nat} {X Y:Nat->Prop} {E:Ents} {W:List Ents} (h:RS w z X q E W n) (hc:Chg Y w w') (h1:∀ b,Y b->¬ X b) (h2:∀ b,Y b->∀ cs,¬ Blk w b cs 5):RS w' z X q E W n:=by
 obtain ⟨lv,wv,hb,hl,hw⟩:=h.ex
 exact ⟨⟨lv,wv,hb.chg hc (fun hy=>h1 q hy h.xq),hl.chg hc (fun b hy hx=>absurd hx (h1 b hy)) h2,hw.chg hc (fun b hy hx=>absurd hx (h1 b hy)) h2⟩,h.xq,fun b hx=>⟨(h.xz b hx).1,Nat.lt_of_lt_of_le (h.xz b hx).2 hc.size⟩,h.rise,h.small⟩
theorem RS.keep {w w':World} {z:Nat->Prop} {q n:Nat} {X:Nat->Prop} {E:Ents} {W:List Ents} (h:RS w z X q E W n) (hb:Below w.heap.size w w'):RS w' z X q E W n:=h.chg (Chg.of (F:=fun _=>False) hb) (fun _ h=>h.elim) (fun _ h=>h.elim)
theorem RS.done {w:World} {z:Nat->Prop} {q n m:Nat} {X:Nat->Prop} {E:Ents} {W:List Ents} (h:RS w z X q E W n):RS (w.setCell ⟨q,2,none⟩ (.int .i64 (m:Nat))) z X q E W m/\Chg (· = q) w (w.setCell ⟨q,2,none⟩ (.int .i64 (m:Nat))):=by
 obtain ⟨lv,wv,hb,hl,hw⟩:=h.ex
 have hc:Chg (· = q) w (w.setCell ⟨q,2,none⟩ (.int .i64 (m:Nat))):=(Chg.refl (fun x=>x=q) w).cell (.inl rfl) _
 have h2:∀ b,b=q->∀ cs,¬ Blk w b cs 5:=fun b e cs k=>by subst e; exact absurd (hb.eq k).2 (by decide)
 exact ⟨⟨⟨lv,wv,hb.setCell (i:=2) _,hl.chg hc (fun b e _=>by subst e; exact ⟨_,_,hb,by decide⟩) h2,hw.chg hc (fun b e _=>by subst e; exact ⟨_,_,hb,by decide,by decide⟩) h2⟩,h.xq,fun b hx=>⟨(h.xz b hx).1,Nat.lt_of_lt_of_le (h.xz b hx).2 hc.size⟩,h.rise,h.small⟩,hc⟩
end Kv
end Go.Proofs.YtflenlpabmehoaaGreat
namespace Go.Proofs.YtflenlpabmehoaaGreat
namespace Kv
open Go.RowKit Go.Lib Pg
attribute [local go_sem] Oper.semAt_some
structure RO (w:World) (z:Nat->Prop) (X:Nat->Prop) (q:Nat) (lv wv:Value) (es:List En) (W:List Ents) (n:Nat):Prop where
 top:Blk w q [lv,wv,.int .i64 n] 30
 row:Pq w 0 z lv es
 blk:∀ b m c,lv=.slice (some ⟨b,0,none⟩) m c->X b
 was:WsA w z X wv W
 xq:X q
 xz:∀ b,X b->z b/\b < w.heap.size
theorem RS.ro {w:World} {z:Nat->Prop} {q n:Nat} {X:Nat->Prop} {E:Ents} {W:List Ents} (h:RS w z X q E W n):∃ lv wv es,RO w z X q lv wv es W n/\es.map En.kl2=E:=by
 obtain ⟨lv,wv,hb,hl,hw⟩:=h.ex
 obtain ⟨es,P,e⟩:=hl.ex
 exact ⟨lv,wv,es,⟨hb,P,hl.blk,hw,h.xq,h.xz⟩,e⟩
theorem RO.rs {w:World} {z:Nat->Prop} {q n:Nat} {X:Nat->Prop} {lv wv:Value} {es:List En} {E:Ents} {W:List Ents} (h:RO w z X q lv wv es W n) (e:es.map En.kl2=E) (hr:Rise E) (hs:∀ x∈E,x.1.length<=1000000000/\x.2.length<=1000000000):RS w z X q E W n :=
 ⟨⟨lv,wv,h.top,⟨⟨es,h.row,e⟩,h.blk⟩,h.was⟩,h.xq,h.xz,hr,hs⟩
theorem pq_chg {w w':World} {B:Nat} {D Y:Nat->Prop} {v:Value} {es:List En} (h:Pq w B D v es) (hc:Chg Y w w') (h1:∀ b m c,v=.slice (some ⟨b,0,none⟩) m c->¬ Y b) (h2:∀ b,Y b->∀ cs,¬ Blk w b cs 5):Pq w' B D v es :=
 ⟨h.ex.imp id (fun ⟨b,c,e,hl,hR⟩=>⟨b,c,e,hl,hR.chg hc (h1 b _ _ e)⟩),fun e he=>(h.ents e he).off fun b hb hk=>hc.same b hb fun hK=>by obtain ⟨cs,k⟩:=hk; exact h2 b hK cs k⟩
theorem RO.chg {w w':World} {z:Nat->Prop} {q n:Nat} {X Y:Nat->Prop} {lv wv:Value} {es:List En} {W:List Ents} (h:RO w z X q lv wv es W n) (hc:Chg Y w w') (h1:∀ b,Y b->¬ X b) (h2:∀ b,Y b->∀ cs,¬ Blk w b cs 5):RO w' z X q lv wv es W n :=
 ⟨h.top.chg hc (fun hy=>h1 q hy h.xq),pq_chg h.row hc (fun b m c e hy=>h1 b hy (h.blk b m c e)) h2,h.blk,h.was.chg hc (fun b hy hx=>absurd hx (h1 b hy)) h2,h.xq,fun b hx=>⟨(h.xz b hx).1,Nat.lt_of_lt_of_le (h.xz b hx).2 hc.size⟩⟩
theorem RO.keep {w w':World} {z:Nat->Prop} {q n:Nat} {X:Nat->Prop} {lv wv:Value} {es:List En} {W:List Ents} (h:RO w z X q lv wv es W n) (hb:Below w.heap.size w w'):RO w' z X q lv wv es W n:=h.chg (Chg.of (F:=fun _=>False) hb) (fun _ h=>h.elim) (fun _ h=>h.elim)
theorem RO.noU {w:World} {z:Nat->Prop} {q n:Nat} {X:Nat->Prop} {lv wv:Value} {es:List En} {W:List Ents} (h:RO w z X q lv wv es W n):∀ b,b=q->∀ cs,¬ Blk w b cs 5:=fun b e cs k=>by subst e; exact absurd (h.top.eq k).2 (by decide)
theorem RO.done {w:World} {z:Nat->Prop} {q n m:Nat} {X:Nat->Prop} {lv wv:Value} {es:List En} {W:List Ents} (h:RO w z X q lv wv es W n):RO (w.setCell ⟨q,2,none⟩ (.int .i64 (m:Nat))) z X q lv wv es W m/\Chg (· = q) w (w.setCell ⟨q,2,none⟩ (.int .i64 (m:Nat))):=by
 have hc:Chg (· = q) w (w.setCell ⟨q,2,none⟩ (.int .i64 (m:Nat))):=(Chg.refl (fun x=>x=q) w).cell (.inl rfl) _
 refine ⟨⟨h.top.setCell (i:=2) _,pq_chg h.row hc (fun b m c e hy => ?_) h.noU,h.blk,h.was.chg hc (fun b e _=>by subst e; exact ⟨_,_,h.top,by decide,by decide⟩) h.noU,h.xq,fun b hx=>⟨(h.xz b hx).1,Nat.lt_of_lt_of_le (h.xz b hx).2 hc.size⟩⟩,hc⟩
 have hy':b=q:=hy
 subst hy'
 rcases h.row.ex with ⟨e1,_⟩ | ⟨b',c',e1,_,hR⟩
 ·rw [e1] at e; cases e
 ·rw [e1] at e
  cases e
  obtain ⟨ds,kd⟩:=hR.kind
  exact absurd (h.top.eq kd).2 (by decide)
theorem app_copyS {w:World} {B:Nat} {D:Nat->Prop} {ov:Value} {es:List En} {e:En} (h:Pq w B D ov es) (hB:B<=w.heap.size) (he:EnA w D e) (hl:es.length<=2000000000) :
  ∃ ov' w',(Builtin.append_ #[27,27] 27 #[ov,.slice (some ⟨w.heap.size,0,none⟩) 1 1]).run Tryz.prog (w.alloc (.cells #[e.kv,e.vv] 115))=.ok ov' w'/\Pq w' B D ov' (es ++ [e])/\Spr B (w.alloc (.cells #[e.kv,e.vv] 115)) w':=by
 have hb:=below_alloc w (.cells #[e.kv,e.vv] 115)
 obtain ⟨c0,c1⟩:=lit2 w e.kv e.vv 115
 obtain ⟨ov',w',hr,hP,hS⟩:=app_pq (a:=⟨w.heap.size,0,none⟩) 27 (h.keep hb) (Nat.le_trans hB hb.size) (he.keep hb) hl c0 c1
 exact ⟨ov',w',hr,hP,hS⟩
theorem RO.spr {w w':World} {z:Nat->Prop} {q n B:Nat} {X:Nat->Prop} {lv wv:Value} {es:List En} {W:List Ents} (h:RO w z X q lv wv es W n) (hS:Spr B w w') (hB:∀ b,X b->b < B):RO w' z X q lv wv es W n :=
 h.chg hS.chg (fun b hy hx=>by have:=hB b hx; have:=hy.1; omega) (fun b ⟨_,cs,k⟩ ds k'=>by
  have:=(k.eq k').2
  revert this
  decide)
def flg (P:List Int->Bool) (es:List En):List En:=es.filter (fun e=>P e.kl)
theorem flg_yes {P:List Int->Bool} {es:List En} {k:Nat} {x:En} (h:es[k]? = some x) (hp:P x.kl=true):flg P (es.take (k + 1))=flg P (es.take k) ++ [x]:=by
 unfold flg
 rw [List.take_add_one,h,List.filter_append]
 simp [hp]
theorem flg_no {P:List Int->Bool} {es:List En} {k:Nat} {x:En} (h:es[k]? = some x) (hp:P x.kl=false):flg P (es.take (k + 1))=flg P (es.take k):=by
 unfold flg
 rw [List.take_add_one,h,List.filter_append]
 simp [hp]
theorem flg_len (P:List Int->Bool) (es:List En) (k:Nat):(flg P (es.take k)).length<=k:=by
 unfold flg
 have h1:=List.length_filter_le (fun e:En=>P e.kl) (es.take k)
 have h2:=List.length_take_le k es
 omega
theorem flg_map (P:List Int->Bool) (es:List En):(flg P es).map En.kl2=(es.map En.kl2).filter (fun x=>P x.1):=by
 unfold flg
 induction es with
 | nil=>rfl
 | cons e es ih =>
  simp only [List.filter_cons,List.map_cons]
  cases h:P e.kl
  ·rw [if_neg (by simp),if_neg (by show ¬ P (En.kl2 e).1=true; rw [show P (En.kl2 e).1=false from h]; simp),ih]
  ·rw [if_pos rfl,if_pos (show P (En.kl2 e).1=true from h),List.map_cons,ih]
theorem flg_end {P:List Int->Bool} {es:List En} {j most:Nat} (h:es.length<=j\/(flg P (es.take j)).length=most) (hl:(flg P (es.take j)).length<=most):(flg P (es.take j)).map En.kl2=((es.map En.kl2).filter (fun x=>P x.1)).take most:=by
 rw [<- flg_map,<- List.map_take]
 congr 1
 rcases h with h | h
 ·rw [List.take_of_length_le h] at hl ⊢
  rw [List.take_of_length_le hl]
 ·have e:flg P es=flg P (es.take j) ++ flg P (es.drop j):=by
   unfold flg
   rw [<- List.filter_append,List.take_append_drop]
  have e2:(flg P (es.take j) ++ flg P (es.drop j)).take most=flg P (es.take j):=by
   rw [<- h,List.take_left']
   rfl
  rw [e,e2]
end Kv
end Go.Proofs.YtflenlpabmehoaaGreat
namespace Go.Proofs.YtflenlpabmehoaaGreat
namespace Kv
open Go.RowKit Go.Lib Pg
attribute [local go_sem] Oper.semAt_some
structure FinRW (w:World) (z:Nat->Prop) (X:Nat->Prop) (q:Nat) (E:Ents) (W:List Ents) (n:Nat) (F:Ents) (e:Ending) (w':World):Prop where
 ex:∃ v es,e=.returned v/\Pq w' w.heap.size z v es/\es.map En.kl2=F/\RS w' z X q E W (n + F.length)/\Chg (· = q) w w'
set_option maxHeartbeats 4000000 in
set_option maxRecDepth 100000 in
theorem rprefix {w : World} {z : Nat → Prop} {q n most : Nat} {X : Nat → Prop} {E : Ents} {W : List Ents} {pv : Value} {p : List Int} (h : RS w z X q E W n) (hp : BK w (· = q) pv p) (hpl : p.length ≤ 1000000000) (hn : n ≤ 3000000000000000000) (hm : E.length ≤ 1000000) (hmo : most ≤ 1000000) :
    Calls Tryz.prog 110 #[.pointer (some ⟨q, 0, none⟩), pv, .int .i64 most] w (FinRW w z X q E W (n + 1) ((E.filter (fun x => decide (p <+: x.1))).take most)) := by
  obtain ⟨lv, wv, es, R, he⟩ := h.ro
  obtain ⟨R1, C1⟩ := R.done (m := n + 1)
  obtain ⟨pa, pc, rfl⟩ := hp.shape
  obtain ⟨av, cv, dv⟩ := R.row.shape
  subst dv
  obtain ⟨m, hem⟩ : ∃ m, Hid (es.length = m) := ⟨_, rfl⟩
  have hmm : m ≤ 1000000 := by rw [← hem.out]; have : es.length = E.length := by rw [← he, List.length_map]
                               omega
  rw [hem.out] at R R1
  have d2 := R.top.cell (i := 2) rfl
  have f2 := R.top.free 2
  have e5 : ((n : Int) + 1) = ((n + 1 : Nat) : Int) := by omega
  obtain ⟨W1, hW1⟩ : ∃ W1, Hid (w.setCell ⟨q, 2, none⟩ (.int .i64 ((n + 1 : Nat) : Int)) = W1) := ⟨_, rfl⟩
  have hW2 : w.setCell ⟨q, 2, none⟩ (.int .i64 ((n : Int) + 1)) = W1 := by rw [e5]; exact hW1.out
  rw [hW1.out] at R1 C1
  have HR1 := hid3 R1
  have HC1 := hid3 C1
  have HE := hid3 he
  have HP := hid3 hp
  have HXB := hid3 (fun b (hx : X b) => (R.xz b hx).2)
  have HRi := hid3 h.rise
  have HSm := hid3 h.small
  obtain ⟨pn, hpn⟩ : ∃ pn, Hid (p.length = pn) := ⟨_, rfl⟩
  rw [hpn.out] at HP hpl ⊢
  clear R R1 C1 h hp he e5
  go_enter Tryz.func110, Tryz.ntmps110
  go_wp2_with fail
  go_loopw [7, 8] (fun tv ti wr => ∃ j : Nat, j ≤ m ∧ ti = .int .i64 j ∧ Hid (RO wr z X q (.slice av m cv) wv es W (n + 1 + (flg (fun l => decide (p <+: l)) (es.take j)).length)) ∧ Hid (Pq wr w.heap.size z tv (flg (fun l => decide (p <+: l)) (es.take j))) ∧ Hid (Chg (· = q) w wr) ∧ Hid ((flg (fun l => decide (p <+: l)) (es.take j)).length ≤ most)) (fun _ ti _ => m - (intOf ti).toNat)
  case atStart => exact ⟨0, Nat.zero_le _, rfl, HR1, Pq.nil _ _ _, HC1, Nat.zero_le _⟩
  case round =>
    obtain ⟨j, hj, rfl, HR, HQ, HC, HL⟩ := hrel
    obtain ⟨bo, d, hbo⟩ := HQ.out.shape
    obtain ⟨c, hc⟩ : ∃ c, Hid ((flg (fun l => decide (p <+: l)) (es.take j)).length = c) := ⟨_, rfl⟩
    have hcj : c ≤ j := by rw [← hc.out]; exact flg_len _ _ _
    have hcm : c ≤ most := by rw [← hc.out]; exact HL.out
    rw [hc.out] at hbo HR
    obtain ⟨N1, hN1⟩ : ∃ N1, Hid (n + 1 + c = N1) := ⟨_, rfl⟩
    have hNb : N1 ≤ 3000000000002000000 := by have := hN1.out; omega
    rw [hN1.out] at HR
    subst hbo
    have t0 := HR.out.top.cell (i := 0) rfl
    by_cases hlt : j < m
    · by_cases hcl : c < most
      · obtain ⟨x, hx⟩ : ∃ x, Hid (es[j]? = some x) := ⟨es[j]'(by have := hem.out; omega), List.getElem?_eq_getElem _⟩
        obtain ⟨pb, rfl⟩ := HR.out.row.some hx.out
        have XE := HR.out.row.ents x (List.mem_of_getElem? hx.out)
        obtain ⟨c1, c2, hpb⟩ := HR.out.row.cells hx.out
        have hxs := (HSm.out x.kl2 (by rw [← HE.out]; exact List.mem_map.2 ⟨x, List.mem_of_getElem? hx.out, rfl⟩)).1
        obtain ⟨xk, xkl, xv, xvl⟩ := x
        obtain ⟨a1, n1, e1⟩ := XE.k.shape
        obtain ⟨a2, n2, e2⟩ := XE.v.shape
        simp only at e1 e2 c1 c2
        subst e1 e2
        have hxs' : xkl.length ≤ 1000000000 := hxs
        have ub := rbegins (show By wr (.slice a1 xkl.length n1) xkl from XE.k.by) (HP.out wr HC.out) hxs' (by rw [hpn.out]; exact hpl)
        have hj0 : (j : Int) < m := by omega
        have hc0 : (c : Int) < most := by omega
        have HXE := hid3 XE
        clear XE hxs
        by_cases hpre : p <+: xkl
        · rw [decide_eq_true hpre] at ub
          have HY := hid3 (flg_yes (P := fun l => decide (p <+: l)) hx.out (decide_eq_true hpre))
          clear hpre
          go_wp2_with first
            | (go_at_call 167; go_must (refine ub.mono ?_); rintro e w7 ⟨rfl, B7⟩; clear ub; have R7 := HR.out.keep B7; have t7 := R7.top.cell (i := 0) rfl; obtain ⟨g1, g2, _⟩ := R7.row.cells hx.out; obtain ⟨ov', w8, hr, hP8, hS8⟩ := app_copyS (e := ⟨.slice a1 xkl.length n1, xkl, .slice a2 xvl.length n2, xvl⟩) (HQ.out.keep B7) (Nat.le_trans HC.out.size B7.size) (HXE.out.keep B7) (by rw [hc.out]; omega); have al := below_alloc w7 (.cells #[.slice a1 xkl.length n1, .slice a2 xvl.length n2] 115); have R8 := (R7.keep al).spr hS8 HXB.out; have t8 := R8.top.cell (i := 2) rfl; have f8 := R8.top.free 2; obtain ⟨R9, C9⟩ := R8.done (m := N1 + 1); have e9 : (N1 : Int) + 1 = ((N1 + 1 : Nat) : Int) := (by omega); obtain ⟨W9, hW9⟩ : ∃ W9, Hid (w8.setCell ⟨q, 2, none⟩ (.int .i64 ((N1 + 1 : Nat) : Int)) = W9) := ⟨_, rfl⟩; have hW9' : w8.setCell ⟨q, 2, none⟩ (.int .i64 ((N1 : Int) + 1)) = W9 := (by rw [e9]; exact hW9.out); rw [hW9.out] at R9 C9; have P9 := pq_chg hP8 C9 (fun b m' c' e hy => by have hy' : b = q := hy; subst hy'; rcases hP8.ex with ⟨e1, _⟩ | ⟨b', c2, e1, hb', _⟩; (rw [e1] at e; cases e); (rw [e1] at e; cases e; have := HXB.out _ R8.xq; omega)) R8.noU; have C10 := ((HC.out.trans (Chg.of (F := fun _ => False) (joinB B7 al)) (fun _ _ h => h.elim)).trans hS8.chg (fun b hb hy => by have := hy.1; omega)).trans C9 (fun _ _ h => h); have HR9 := hid3 R9; have HP9 := hid3 P9; have HC9 := hid3 C10; clear R9 P9 C10 C9 R8 hP8 hS8 al B7 R7 e9)
            | (at_builtin; refine Lib.wpList_append_run _ rfl _ _ _ _ rfl _ _ rfl rfl _ _ hr ?_)
          go_roundw
          case rel => exact ⟨j + 1, by omega, by go_num, by rw [HY.out, List.length_append, hc.out, show n + 1 + (c + [(⟨.slice a1 xkl.length n1, xkl, .slice a2 xvl.length n2, xvl⟩ : En)].length) = N1 + 1 by have := hN1.out; rw [List.length_singleton]; omega]; exact HR9, by rw [HY.out]; exact HP9, HC9, by rw [HY.out, List.length_append, hc.out, List.length_singleton]; exact hcl⟩
          case measure => simp [intOf]; omega
        · rw [decide_eq_false hpre] at ub
          have HY := hid3 (flg_no (P := fun l => decide (p <+: l)) hx.out (decide_eq_false hpre))
          clear hpre
          go_wp2_with (go_at_call 167; go_must (refine ub.mono ?_); rintro e w7 ⟨rfl, B7⟩; clear ub)
          go_roundw
          case rel => exact ⟨j + 1, by omega, by go_num, by rw [HY.out, hc.out, hN1.out]; exact HR.out.keep B7, by rw [HY.out]; exact HQ.out.keep B7, HC.out.trans (Chg.of (F := fun _ => False) B7) (fun _ _ h => h.elim), by rw [HY.out]; exact HL⟩
          case measure => simp [intOf]; omega
      · have hc0 : ((c : Int) < most) = False := eq_false (by omega)
        have hj0 : (j : Int) < m := by omega
        have HF := hid3 (flg_end (P := fun l => decide (p <+: l)) (es := es) (j := j) (most := most) (.inr (by rw [hc.out]; omega)) HL.out)
        go_wp2
        go_ret
        refine ⟨_, _, rfl, HQ.out, ?_, ?_, HC.out⟩
        · rw [HF.out, HE.out]
        · rw [← HE.out, ← HF.out, List.length_map, hc.out, hN1.out]
          exact HR.out.rs rfl (by rw [HE.out]; exact HRi.out) (by rw [HE.out]; exact HSm.out)
    · have hj0 : ((j : Int) < m) = False := eq_false (by omega)
      have HF := hid3 (flg_end (P := fun l => decide (p <+: l)) (es := es) (j := j) (most := most) (.inl (by rw [hem.out]; omega)) HL.out)
      go_wp2
      go_ret
      refine ⟨_, _, rfl, HQ.out, ?_, ?_, HC.out⟩
      · rw [HF.out, HE.out]
      · rw [← HE.out, ← HF.out, List.length_map, hc.out, hN1.out]
        exact HR.out.rs rfl (by rw [HE.out]; exact HRi.out) (by rw [HE.out]; exact HSm.out)
end Kv
end Go.Proofs.YtflenlpabmehoaaGreat
namespace Go.Proofs.YtflenlpabmehoaaGreat
namespace Kv
open Go.RowKit Go.Lib Pg
attribute [local go_sem] Oper.semAt_some
end Kv
end Go.Proofs.YtflenlpabmehoaaGreat
namespace Go.Proofs.YtflenlpabmehoaaGreat
namespace Kv
open Go.RowKit Go.Lib Pg
attribute [local go_sem] Oper.semAt_some
theorem KW:Kd Tryz.prog 28 27 1 24 (.slice none 0 0):=⟨by kernel_rfl,by kernel_rfl,rfl,by simp [Value.cells,Value.oneCell'],by decide⟩
theorem RS.rest {w:World} {z:Nat->Prop} {q n:Nat} {X:Nat->Prop} {E E':Ents} {W W':List Ents} (h:RS w z X q E W n) {lv wv:Value} (hl:Pl w z X lv E') (hw:WsA w z X wv W') (w':World) (hb:Blk w' q [lv,wv,.int .i64 n] 30) (hc:Chg (· = q) w w') (hr:Rise E') (hs:∀ x∈E',x.1.length<=1000000000/\x.2.length<=1000000000):RS w' z X q E' W' n:=by
 obtain ⟨lv0,wv0,hb0,_,_⟩:=h.ex
 have h2:∀ b,b=q->∀ cs,¬ Blk w b cs 5:=fun b e cs k=>by subst e; exact absurd (hb0.eq k).2 (by decide)
 exact ⟨⟨lv,wv,hb,hl.chg hc (fun b e _=>by subst e; exact ⟨_,_,hb0,by decide⟩) h2,hw.chg hc (fun b e _=>by subst e; exact ⟨_,_,hb0,by decide,by decide⟩) h2⟩,h.xq,fun b hx=>⟨(h.xz b hx).1,Nat.lt_of_lt_of_le (h.xz b hx).2 hc.size⟩,hr,hs⟩
end Kv
end Go.Proofs.YtflenlpabmehoaaGreat
namespace Go.Proofs.YtflenlpabmehoaaGreat
namespace Kv
open Go.RowKit Go.Lib Pg
attribute [local go_sem] Oper.semAt_some
end Kv
end Go.Proofs.YtflenlpabmehoaaGreat
namespace Go.Proofs.YtflenlpabmehoaaGreat
namespace Kv
open Go.RowKit Go.Lib Pg
attribute [local go_sem] Oper.semAt_some
theorem ld_ll {w:World} {g o:Nat} {v:Value} (c:w.cell? ⟨g,o,none⟩=some v):(loadVar 27 ⟨g,o,none⟩).run Tryz.prog w=.ok v w:=by go_simp
theorem run_b1 {a:Act} {w:World} {o:Oper} {k:Nat} {x:Option Addr} {n c:Nat} (ho:o.op=.buildSlice 28 1 #[(0,.tmp k)]) (hk:a.eval (.tmp k)=.slice x n c):(execOp a.eval o).run Tryz.prog w=.ok (.value (.slice (some ⟨w.heap.size,0,none⟩) 1 1)) (w.alloc (.cells #[.slice x n c] 27)):=by
 have hk':a.tmps[k]?.getD undef=.slice x n c:=by simpa [Act.eval] using hk
 simp only [execOp,ho]
 go_simp
theorem WsA.mono {w:World} {z:Nat->Prop} {X X':Nat->Prop} {wv:Value} {W:List Ents} (h:WsA w z X wv W) (hX:∀ b,X b->X' b):WsA w z X' wv W :=
 ⟨h.ex.imp id (fun ⟨b,c,vs,e,hx,hR,hv⟩=>⟨b,c,vs,e,hX b hx,hR,fun i v F h1 h2=>(hv i v F h1 h2).mono hX⟩)⟩
theorem WsA.push {w:World} {z:Nat->Prop} {X:Nat->Prop} {wv:Value} {W:List Ents} {la:Option Addr} {ln lc:Nat} {E:Ents} (h:WsA w z X wv W) (hl:Pl w z X (.slice la ln lc) E) (hW:W.length<=16) :
  ∃ b' c' w',(Builtin.append_ #[28,28] 28 #[wv,.slice (some ⟨w.heap.size,0,none⟩) 1 1]).run Tryz.prog (w.alloc (.cells #[.slice la ln lc] 27))=.ok (.slice (some ⟨b',0,none⟩) (W.length + 1) c') w'/\(X b'\/w.heap.size<=b')/\b' < w'.heap.size/\WsA w' z (fun b=>X b\/b=b') (.slice (some ⟨b',0,none⟩) (W.length + 1) c') (E :: W)/\Chg (fun b=>X b/\∃ cs,Blk w b cs 27) w w':=by
 have al:=below_alloc w (.cells #[.slice la ln lc] 27)
 have nb:=blk_new w [.slice la ln lc] 27
 have hnews:∀ j u,[Value.slice la ln lc][j]? = some u->(w.alloc (.cells #[.slice la ln lc] 27)).cell? ((⟨w.heap.size,0,none⟩:Addr).add j)=some u:=fun j u hj=>by
  have:j=0:=by have:=(List.getElem?_eq_some_iff.1 hj).1; simp at this; omega
  subst this
  simp at hj
  subst hj
  exact nb.cell (i:=0) rfl
 have hkeep:∀ {w':World} {v:Value} {F:Ents},Chg (fun b=>X b/\∃ cs,Blk w b cs 27) w w'->Pl w z X v F->Pl w' z X v F:=fun {w' v F} hc h=>h.chg hc (fun b hy _=>by obtain ⟨_,cs,k⟩:=hy; exact ⟨cs,_,k,by decide⟩) (fun b hy ds k'=>by obtain ⟨_,cs,k⟩:=hy; exact absurd (k.eq k').2 (by decide))
 rcases h.ex with ⟨rfl,rfl⟩ | ⟨b,c,vs,rfl,hX,hR,hv⟩
 ·obtain ⟨c',w',hr,hR',hB⟩:=app_nil (w:=w.alloc (.cells #[.slice la ln lc] 27)) KW 28 ⟨w.heap.size,0,none⟩ 1 1 [.slice la ln lc] rfl hnews (by decide) (by decide) (by decide)
  have hc:Chg (fun b=>X b/\∃ cs,Blk w b cs 27) w w':=Chg.of (joinB al hB)
  refine ⟨_,c',w',hr,.inr al.size,hR'.lt,⟨.inr ⟨_,c',_,rfl,.inr rfl,hR',fun i v F h1 h2 => ?_⟩⟩,hc⟩
  have:i=0:=by have:=(List.getElem?_eq_some_iff.1 h1).1; simp at this; omega
  subst this
  simp at h1 h2
  subst h1 h2
  exact (hkeep hc hl).mono fun _ h=>.inl h
 ·obtain ⟨b',c',w',hr,hb',hR',hC⟩:=app_row (w:=w.alloc (.cells #[.slice la ln lc] 27)) KW 28 (hR.keep al) ⟨w.heap.size,0,none⟩ 1 1 [.slice la ln lc] rfl hnews (by simp [Value.oneCell']) (by omega) (by omega)
  obtain ⟨cs0,k0⟩:=hR.kind
  have hc:Chg (fun b=>X b/\∃ cs,Blk w b cs 27) w w':=(Chg.of (F:=fun b=>X b/\∃ cs,Blk w b cs 27) al).trans hC (fun x _ e=>by have e':x=b:=e; subst e'; exact ⟨hX,cs0,k0⟩)
  refine ⟨b',c',w',hr,hb'.elim (fun e=>.inl (e▸hX)) (fun e=>.inr (by have:=al.size; omega)),hR'.lt,⟨.inr ⟨b',c',_,rfl,.inr rfl,hR',fun i v F h1 h2 => ?_⟩⟩,hc⟩
  have hl1:=hR.len
  by_cases hi:i < W.length
  ·rw [List.getElem?_append_left (by omega)] at h1
   rw [List.reverse_cons,List.getElem?_append_left (by rw [List.length_reverse]; exact hi)] at h2
   exact (hkeep hc (hv i v F h1 h2)).mono fun _ h=>.inl h
  ·have hi2:i=W.length:=by
    have:=(List.getElem?_eq_some_iff.1 h2).1
    simp at this
    omega
   subst hi2
   rw [List.getElem?_append_right (by omega),show W.length - vs.length=0 by omega] at h1
   rw [List.reverse_cons,List.getElem?_append_right (by simp),List.length_reverse,Nat.sub_self] at h2
   simp at h1 h2
   subst h1 h2
   exact (hkeep hc hl).mono fun _ h=>.inl h
def XU (w:World) (X:Nat->Prop) (b:Nat):Prop:=X b/\∀ cs,¬ Blk w b cs 5
theorem RS.noU {w:World} {z:Nat->Prop} {q n:Nat} {X:Nat->Prop} {E:Ents} {W:List Ents} (h:RS w z X q E W n):XU w X q:=⟨h.xq,fun cs k=>by
 obtain ⟨lv,wv,hb,-,-⟩:=h.ex
 exact absurd (hb.eq k).2 (by decide)⟩
structure FinRX (w:World) (z:Nat->Prop) (X:Nat->Prop) (q:Nat) (E:Ents) (W:List Ents) (n:Nat) (r:Int) (e:Ending) (w':World):Prop where
 ret:e=.returned (.int .i64 r)
 ex:∃ X',RS w' z X' q E W n/\(∀ b,X' b->X b\/w.heap.size<=b)/\(∀ b,X b->X' b)/\Chg (XU w X) w w'
end Kv
end Go.Proofs.YtflenlpabmehoaaGreat
namespace Go.Proofs.YtflenlpabmehoaaGreat
namespace Kv
open Go.RowKit Go.Lib Pg
attribute [local go_sem] Oper.semAt_some
theorem run_sol {a:Act} {w:World} {o:Oper} (k q:Nat) {g n c i:Nat} {u:Value} {ao:Option Addr} (ho:o.op=.store 27 (.tmp k) (.tmp q)) (hp:a.eval (.tmp k)=.pointer (some ⟨g,i,none⟩)) (hq:a.eval (.tmp q)=.slice ao n c) (hc:w.cell? ⟨g,i,none⟩=some u) (hf:w.frozen? ⟨g,i,none⟩=false) :
  (execOp a.eval o).run Tryz.prog w=.ok .skip (w.setCell ⟨g,i,none⟩ (.slice ao n c)):=by
 simp only [execOp,ho,hp,hq]
 go_simp
end Kv
end Go.Proofs.YtflenlpabmehoaaGreat
namespace Go.Proofs.YtflenlpabmehoaaGreat
namespace Kv
open Go.RowKit Go.Lib Pg
attribute [local go_sem] Oper.semAt_some
theorem app_zero {T E:TypeId} {k bytes:Nat} {z:Value} (H:Kd Tryz.prog T E k bytes z) (ty:TypeId) (w:World) (ao:Option Addr) (c:Nat):(Builtin.append_ #[T,T] ty #[.slice none 0 0,.slice ao 0 c]).run Tryz.prog w=.ok (.slice none 0 0) w:=by
 obtain ⟨i,hi,hz,hs,hb⟩:=info_parts H.inf
 have:(Builtin.firstCells i.size 0 (.slice ao 0 c)).run Tryz.prog w=.ok #[] w:=by
  cases ao with
  | none=>rfl
  | some a=>exact run_firstCells_some w i.size 0 a 0 c [] (by simp) (fun j v hj=>by simp at hj)
 simp [Builtin.append_,run_underlying H.und,sizeOf,typeInfo,hi,Builtin.lenOf,this]
theorem adr0 (b o n:Nat):(⟨b,o,none⟩:Addr).add n=⟨b,o + n,none⟩:=by
 by_cases h:n=0
 ·subst h; rfl
 ·simp [Addr.add,h]
theorem app_pairs {w:World} {B:Nat} {D:Nat->Prop} {ov:Value} {es es2:List En} {a:Addr} {cc:Nat} (h:Pq w B D ov es) (hB:B<=w.heap.size) (he:∀ e∈es2,EnA w D e) (h0:es2≠[]) (hl:es.length + es2.length<=2000000000) (hc:∀ j u,(flat es2)[j]? = some u->w.cell? (a.add j)=some u) :
  ∃ ov' w',(Builtin.append_ #[27,27] 27 #[ov,.slice (some a) es2.length cc]).run Tryz.prog w=.ok ov' w'/\Pq w' B D ov' (es ++ es2)/\Spr B w w':=by
 have hpos:0 < es2.length:=List.length_pos_iff.2 h0
 rcases h.ex with ⟨rfl,rfl⟩ | ⟨b,c,rfl,hb,hR⟩
 ·simp only [List.length_nil,Nat.zero_add] at hl
  obtain ⟨c',w',hr,hR,hw⟩:=app_nil (w:=w) KQ 27 a es2.length cc (flat es2) (flat_len es2) hc hpos (by omega) (by omega)
  exact ⟨_,w',hr,⟨.inr ⟨_,c',rfl,hB,hR⟩,fun x hx=>(he x hx).keep hw⟩,Spr.of hw⟩
 ·obtain ⟨b',c',w',hr,hb',hR',hw⟩:=app_row (w:=w) KQ 27 hR a es2.length cc (flat es2) (flat_len es2) hc (flat_one he) (by omega) (by omega)
  obtain ⟨cs0,k0⟩:=hR.kind
  have hS:Spr B w w':=⟨hw.mono (fun x _ ex=>⟨ex▸hb,cs0,ex▸k0⟩)⟩
  refine ⟨_,w',hr,⟨.inr ⟨b',c',by simp,by rcases hb' with rfl | rfl<;>assumption,by rw [flat_append,List.length_append]; exact hR'⟩,fun x hx => ?_⟩,hS⟩
  have hx':EnA w D x:=by
   rcases List.mem_append.1 hx with hx | hx
   ·exact h.ents x hx
   ·exact he x hx
  exact ⟨hS.ob hx'.k,hS.ob hx'.v⟩
theorem app_pairs0 {w:World} {B:Nat} {D:Nat->Prop} {ov:Value} {es es2:List En} {a:Addr} {cc:Nat} (h:Pq w B D ov es) (hB:B<=w.heap.size) (he:∀ e∈es2,EnA w D e) (hl:es.length + es2.length<=2000000000) (hc:∀ j u,(flat es2)[j]? = some u->w.cell? (a.add j)=some u) :
  ∃ ov' w',(Builtin.append_ #[27,27] 27 #[ov,.slice (some a) es2.length cc]).run Tryz.prog w=.ok ov' w'/\Pq w' B D ov' (es ++ es2)/\Spr B w w':=by
 by_cases h0:es2=[]
 ·subst h0
  rcases h.ex with ⟨rfl,rfl⟩ | ⟨b,c,rfl,hb,hR⟩
  ·exact ⟨_,w,app_zero KQ _ w _ _,Pq.nil _ _ _,Spr.of (Below.refl _ _)⟩
  ·obtain ⟨b',c',w',hr,hb',hR',hw⟩:=app_row (w:=w) KQ 27 hR a 0 cc [] rfl (fun j u hj=>by simp at hj) (by simp) (by omega) (by omega)
   obtain ⟨cs0,k0⟩:=hR.kind
   have hS:Spr B w w':=⟨hw.mono (fun x _ ex=>⟨ex▸hb,cs0,ex▸k0⟩)⟩
   refine ⟨_,w',hr,⟨.inr ⟨b',c',by simp,by rcases hb' with rfl | rfl<;>assumption,by rw [List.append_nil]; simpa using hR'⟩,fun x hx => ?_⟩,hS⟩
   have hx':=h.ents x (by simpa using hx)
   exact ⟨hS.ob hx'.k,hS.ob hx'.v⟩
 ·exact app_pairs h hB he h0 hl hc
theorem flat_take_at {es:List En} {i j:Nat} {u:Value} (h:(flat (es.take i))[j]? = some u):(flat es)[j]? = some u:=by
 rw [<- flat_take,List.getElem?_take] at h
 split at h
 ·exact h
 ·cases h
theorem flat_drop_at {es:List En} {i j:Nat} {u:Value} (h:(flat (es.drop i))[j]? = some u):(flat es)[i * 2 + j]? = some u:=by
 rw [<- flat_drop,List.getElem?_drop] at h
 exact h
theorem run_slh {a:Act} {w:World} {op:Oper} {x y n c b i:Nat} (ho:op.op=.slice 27 (.tmp x) none (some (.tmp y)) none) (hx:a.eval (.tmp x)=.slice (some ⟨b,0,none⟩) n c) (hy:a.eval (.tmp y)=.int .i64 i) (hc:i<=c):(execOp a.eval op).run Tryz.prog w=.ok (.value (.slice (some ⟨b,0,none⟩) i c)) w:=by
 have h1:¬ ((c:Int) < i):=by omega
 have h2:(i:Int)<=c:=by omega
 have h3:¬ ((i:Int) < 0):=by omega
 have hy':a.tmps[y]?.getD undef=.int .i64 i:=by simpa [Act.eval] using hy
 obtain ⟨i0,hi,hz0,hs0,hb0⟩:=info_parts (P:=Tryz.prog) KQ.inf
 simp only [execOp,ho,hx]
 go_simp
theorem run_sll {a:Act} {w:World} {op:Oper} {x y n c b i:Nat} {z:Int} (ho:op.op=.slice 27 (.tmp x) (some (.tmp y)) none none) (hx:a.eval (.tmp x)=.slice (some ⟨b,0,none⟩) n c) (hy:a.eval (.tmp y)=.int .i64 z) (hz:z=(i:Int)) (hn:i<=n) (hnc:n<=c):(execOp a.eval op).run Tryz.prog w=.ok (.value (.slice (some ⟨b,if c=i then 0 else i * 2,none⟩) (n - i) (c - i))) w:=by
 subst hz
 have h1:¬ ((n:Int) < i):=by omega
 have h2:(i:Int)<=n:=by omega
 have h3:¬ ((i:Int) < 0):=by omega
 have h4:(n:Int)<=c:=by omega
 have h8:(i:Int)<=c:=by omega
 have hy':a.tmps[y]?.getD undef=.int .i64 i:=by simpa [Act.eval] using hy
 obtain ⟨i0,hi,hz0,hs0,hb0⟩:=info_parts (P:=Tryz.prog) KQ.inf
 by_cases hC:c=i
 ·subst hC
  obtain rfl:n=c:=by omega
  simp only [execOp,ho,hx,if_true]
  go_simp
 ·have h5:¬ (c - i=0):=by omega
  have h6:¬ ((c:Int)=i):=by omega
  have h7:¬ (c<=i):=by omega
  simp only [execOp,ho,hx,if_neg hC]
  go_simp
end Kv
end Go.Proofs.YtflenlpabmehoaaGreat
namespace Go.Proofs.YtflenlpabmehoaaGreat
namespace Kv
open Go.RowKit Go.Lib Pg
attribute [local go_sem] Oper.semAt_some
theorem app_none {T E:TypeId} {k bytes:Nat} {z:Value} (H:Kd Tryz.prog T E k bytes z) (ty:TypeId) (w:World) (a:Addr) (n c:Nat) (hn:n<=c):(Builtin.append_ #[T,T] ty #[.slice (some a) n c,.slice none 0 0]).run Tryz.prog w=.ok (.slice (some a) n c) w:=by
 obtain ⟨i,hi,hz,hs,hb⟩:=info_parts H.inf
 have:(Builtin.firstCells i.size 0 (.slice none 0 0)).run Tryz.prog w=.ok #[] w:=rfl
 simp [Builtin.append_,run_underlying H.und,sizeOf,typeInfo,hi,Builtin.lenOf,this,hn,storeCells]
def offL (la:Option Addr) (c i:Nat):Option Addr:=match la with
 | none=>none
 | some a=>some ⟨a.block,if c=i then 0 else i * 2,none⟩
theorem app_take {w:World} {B B2:Nat} {D:Nat->Prop} {ov:Value} {es fs:List En} {la:Option Addr} {n c i:Nat} (h:Pq w B D ov es) (hB:B<=w.heap.size) (hs:Pq w B2 D (.slice la n c) fs) (hi:i<=fs.length) (hl:es.length + fs.length<=2000000000) :
  ∃ ov' w',(Builtin.append_ #[27,27] 27 #[ov,.slice la i c]).run Tryz.prog w=.ok ov' w'/\Pq w' B D ov' (es ++ fs.take i)/\Spr B w w':=by
 rcases hs.ex with ⟨e1,rfl⟩ | ⟨b,c',e1,_,hR⟩
 ·cases e1
  obtain rfl:i=0:=by simpa using hi
  rw [List.take_nil,List.append_nil]
  rcases h.ex with ⟨rfl,rfl⟩ | ⟨b,c,rfl,hb,hR⟩
  ·exact ⟨_,w,app_zero KQ _ w _ _,h,Spr.of (Below.refl _ _)⟩
  ·exact ⟨_,w,app_none KQ _ w _ _ _ hR.le.1,h,Spr.of (Below.refl _ _)⟩
 ·cases e1
  have hl2:(fs.take i).length=i:=by rw [List.length_take,Nat.min_eq_left hi]
  have up:=app_pairs0 (w:=w) (es2:=fs.take i) (a:=⟨b,0,none⟩) (cc:=c) h hB (fun x hx=>hs.ents x (List.mem_of_mem_take hx)) (by omega) (fun j u hj=>by
   rw [adr0,Nat.zero_add]
   exact hR.cell (flat_take_at hj))
  rw [hl2] at up
  exact up
theorem app_drop {w:World} {B B2:Nat} {D:Nat->Prop} {ov:Value} {es fs:List En} {la:Option Addr} {n c i:Nat} (h:Pq w B D ov es) (hB:B<=w.heap.size) (hs:Pq w B2 D (.slice la n c) fs) (hi:i<=fs.length) (hl:es.length + fs.length<=2000000000) :
  ∃ ov' w',(Builtin.append_ #[27,27] 27 #[ov,.slice (offL la c i) (n - i) (c - i)]).run Tryz.prog w=.ok ov' w'/\Pq w' B D ov' (es ++ fs.drop i)/\Spr B w w':=by
 rcases hs.ex with ⟨e1,rfl⟩ | ⟨b,c',e1,_,hR⟩
 ·cases e1
  obtain rfl:i=0:=by simpa using hi
  rw [List.drop_nil,List.append_nil]
  simp only [offL,Nat.sub_zero]
  rcases h.ex with ⟨rfl,rfl⟩ | ⟨b,c,rfl,hb,hR⟩
  ·exact ⟨_,w,app_zero KQ _ w _ _,h,Spr.of (Below.refl _ _)⟩
  ·exact ⟨_,w,app_none KQ _ w _ _ _ hR.le.1,h,Spr.of (Below.refl _ _)⟩
 ·cases e1
  simp only [offL]
  have hl2:(fs.drop i).length=fs.length - i:=by rw [List.length_drop]
  have hle:=hR.le
  have up:=app_pairs0 (w:=w) (es2:=fs.drop i) (a:=⟨b,if c=i then 0 else i * 2,none⟩) (cc:=c - i) h hB (fun x hx=>hs.ents x (List.mem_of_mem_drop hx)) (by omega) (fun j u hj=>by
   by_cases hC:c=i
   ·have:fs.drop i=[]:=List.drop_eq_nil_of_le (by omega)
    rw [this] at hj
    simp [flat] at hj
   ·rw [if_neg hC,adr0]
    exact hR.cell (flat_drop_at hj))
  rw [hl2] at up
  exact up
theorem run_slh' {a:Act} {w:World} {B:Nat} {D:Nat->Prop} {fs:List En} {op:Oper} {x y n c i:Nat} {la:Option Addr} (hs:Pq w B D (.slice la n c) fs) (ho:op.op=.slice 27 (.tmp x) none (some (.tmp y)) none) (hx:a.eval (.tmp x)=.slice la n c) (hy:a.eval (.tmp y)=.int .i64 i) (hi:i<=fs.length):∀ w':World,(execOp a.eval op).run Tryz.prog w'=.ok (.value (.slice la i c)) w':=by
 intro w'
 rcases hs.ex with ⟨e1,rfl⟩ | ⟨b,c',e1,_,hR⟩
 ·cases e1
  obtain rfl:i=0:=by simpa using hi
  have hy':a.tmps[y]?.getD undef=.int .i64 0:=by simpa [Act.eval] using hy
  obtain ⟨i0,hi,hz0,hs0,hb0⟩:=info_parts (P:=Tryz.prog) KQ.inf
  simp only [execOp,ho,hx]
  go_simp
 ·cases e1
  exact run_slh ho hx hy (Nat.le_trans hi hR.le.1)
theorem run_sll' {a:Act} {w:World} {B:Nat} {D:Nat->Prop} {fs:List En} {op:Oper} {x y n c i:Nat} {la:Option Addr} {z:Int} (hs:Pq w B D (.slice la n c) fs) (ho:op.op=.slice 27 (.tmp x) (some (.tmp y)) none none) (hx:a.eval (.tmp x)=.slice la n c) (hy:a.eval (.tmp y)=.int .i64 z) (hz:z=(i:Int)) (hi:i<=fs.length):∀ w':World,(execOp a.eval op).run Tryz.prog w'=.ok (.value (.slice (offL la c i) (n - i) (c - i))) w':=by
 intro w'
 rcases hs.ex with ⟨e1,rfl⟩ | ⟨b,c',e1,_,hR⟩
 ·cases e1
  obtain rfl:i=0:=by simpa using hi
  subst hz
  have hy':a.tmps[y]?.getD undef=.int .i64 0:=by simpa [Act.eval] using hy
  obtain ⟨i0,hi,hz0,hs0,hb0⟩:=info_parts (P:=Tryz.prog) KQ.inf
  simp only [execOp,ho,hx,offL]
  go_simp
 ·cases e1
  exact run_sll ho hx hy hz hi hR.le.1
section
variable {ops:Array Oper} {rest:List Oper} {o:Oper} {a:Act} {w w1:World} {Q:Exit->Act->World->Prop} {K:Act->World->Prop} {Q':Exit->Act->World->Prop}
theorem wk_val (d:Option Tmp) (v:Value) (hg:o.guard=none) (hd:o.dst=d) (hrun:(execOp a.eval o).run Tryz.prog w=.ok (.value v) w1) (h:wpList Tryz.prog ops Q rest (a.put d v) w1):wpList Tryz.prog ops Q (o :: rest) a w :=
 wpList_plain hg fun K hK=>by
  unfold Oper.wp
  rw [hrun]
  subst hd
  exact hK _ _ h
theorem wk_take (d:Option Tmp) (v:Value) (hg:o.guard=none) (hd:o.dst=d) (hrun:(execOp a.eval o).run Tryz.prog w=.ok (.value v) w) (h:wpList Tryz.prog ops Q rest (a.put d v) w):wpList Tryz.prog ops Q (o :: rest) a w:=wk_val d v hg hd hrun h
theorem wk_skip (hg:o.guard=none) (hd:o.dst=none) (hrun:(execOp a.eval o).run Tryz.prog w=.ok .skip w1) (h:wpList Tryz.prog ops Q rest (a.put none undef) w1):wpList Tryz.prog ops Q (o :: rest) a w :=
 wpList_plain hg fun K hK=>by
  unfold Oper.wp
  rw [hrun]
  show K (a.put o.dst undef) w1
  rw [hd]
  exact hK _ _ h
theorem wk_end (h:K a w):wpList Tryz.prog ops (Exit.then K Q') [] a w:=h
theorem wp_skip_then (h:K a w):Code.skip.wp Tryz.prog (Exit.then K Q') a w:=wp_skip h
end
theorem run_add1 {a:Act} {w:World} {o:Oper} {x n:Nat} (ho:o.op=.binOp .add 3 (.tmp x) (.const (.int .i64 1)) 3) (hx:a.eval (.tmp x)=.int .i64 (n:Int)) (hn:n<=1000000000):(execOp a.eval o).run Tryz.prog w=.ok (.value (.int .i64 ((n:Int) + 1))) w:=by
 have hx':a.tmps[x]?.getD undef=.int .i64 (n:Int):=by simpa [Act.eval] using hx
 simp only [execOp,ho]
 go_simp
 rw [IntKind.wrap_i64]
 omega
end Kv
end Go.Proofs.YtflenlpabmehoaaGreat
namespace Go.Proofs.YtflenlpabmehoaaGreat
namespace Kv
open Go.RowKit Go.Lib Pg
attribute [local go_sem] Oper.semAt_some
theorem ld_pr {w:World} {g:Nat} {v u:Value} (c:w.cell? ⟨g,0,none⟩=some v) (d:w.cell? ⟨g,1,none⟩=some u):(loadVar 115 ⟨g,0,none⟩).run Tryz.prog w=.ok (.agg #[v,u]) w:=by go_simp
theorem run_bsq {a:Act} {w:World} {o:Oper} {k:Nat} {kv vv:Value} (ho:o.op=.buildSlice 27 1 #[(0,.tmp k)]) (hk:a.eval (.tmp k)=.agg #[kv,vv]):(execOp a.eval o).run Tryz.prog w=.ok (.value (.slice (some ⟨w.heap.size,0,none⟩) 1 1)) (w.alloc (.cells #[kv,vv] 115)):=by
 have hk':a.tmps[k]?.getD undef=.agg #[kv,vv]:=by simpa [Act.eval] using hk
 simp only [execOp,ho]
 go_simp
theorem Pq.low {w:World} {B B':Nat} {D:Nat->Prop} {v:Value} {es:List En} (h:Pq w B D v es) (hB:B'<=B):Pq w B' D v es :=
 ⟨h.ex.imp id (fun ⟨b,c,e,hl,hR⟩=>⟨b,c,e,Nat.le_trans hB hl,hR⟩),h.ents⟩
theorem Pq.blkc {w:World} {B:Nat} {D:Nat->Prop} {v:Value} {es:List En} {m:Nat} (h:Pq w B D v es) (he:es≠[]) (hm:es.length=m):∃ b c,v=.slice (Option.some ⟨b,0,none⟩) m c:=by
 rcases h.ex with ⟨_,e⟩ | ⟨b,c,e,_⟩
 ·exact absurd e he
 ·exact ⟨b,c,by rw [e,hm]⟩
theorem built2 {W5:World} {B:Nat} {D:Nat->Prop} {es:List En} {e0:En} {la:Option Addr} {ln lc lo:Nat} (hL:Pq W5 B D (.slice la ln lc) es) (he:EnA W5 D e0) (hlo:lo<=es.length) (hl:es.length<=1000000) :
  (∃ v5 w5 b6 c6 w6,(Builtin.append_ #[27,27] 27 #[.slice none 0 0,.slice la lo lc]).run Tryz.prog W5=.ok v5 w5/\Below W5.heap.size W5 w5/\(Builtin.append_ #[27,27] 27 #[v5,.slice (some ⟨w5.heap.size,0,none⟩) 1 1]).run Tryz.prog (w5.alloc (.cells #[e0.kv,e0.vv] 115))=.ok (.slice (some ⟨b6,0,none⟩) (lo + 1) c6) w6/\Below W5.heap.size W5 w6/\Pq w6 W5.heap.size D (.slice (some ⟨b6,0,none⟩) (lo + 1) c6) (es.take lo ++ [e0])) /\
  (∃ v5 w5 b6 c6 w6,(Builtin.append_ #[27,27] 27 #[.slice none 0 0,.slice la lo lc]).run Tryz.prog (W5.alloc (.cells #[e0.kv,e0.vv] 115))=.ok v5 w5/\Below W5.heap.size W5 w5/\(Builtin.append_ #[27,27] 27 #[v5,.slice (some ⟨W5.heap.size,0,none⟩) 1 1]).run Tryz.prog w5=.ok (.slice (some ⟨b6,0,none⟩) (lo + 1) c6) w6/\Below W5.heap.size W5 w6/\Pq w6 W5.heap.size D (.slice (some ⟨b6,0,none⟩) (lo + 1) c6) (es.take lo ++ [e0])):=by
 have hlen:(es.take lo ++ [e0]).length=lo + 1:=by simp; omega
 have hne:es.take lo ++ [e0]≠[]:=by simp
 have htl:(es.take lo).length<=2000000000:=by rw [List.length_take]; omega
 refine ⟨?_,?_⟩
 ·obtain ⟨v5,w5,hr5,P5,S5⟩:=app_take (ov:=.slice none 0 0) (es:=[]) (Pq.nil W5 W5.heap.size D) (Nat.le_refl _) hL hlo (by simp; omega)
  rw [List.nil_append] at P5
  have b5:=Spr_below S5 (Nat.le_refl _)
  obtain ⟨v6,w6,hr6,P6,b6⟩:=app_copy P5 b5.size (he.keep b5) htl
  obtain ⟨b,c,rfl⟩:=P6.blkc hne hlen
  exact ⟨v5,w5,b,c,w6,hr5,b5,hr6,b5.trans b6,P6⟩
 ·have al:=below_alloc W5 (.cells #[e0.kv,e0.vv] 115)
  have hsz:=size_al W5 (.cells #[e0.kv,e0.vv] 115)
  obtain ⟨c0,c1⟩:=lit2 W5 e0.kv e0.vv 115
  obtain ⟨v5,w5,hr5,P5,S5⟩:=app_take (ov:=.slice none 0 0) (es:=[]) (Pq.nil _ _ D) (Nat.le_refl _) (hL.keep al) hlo (by simp; omega)
  rw [List.nil_append] at P5
  have b5:=Spr_below S5 (Nat.le_refl _)
  have b05:=joinB al b5
  have hlt:W5.heap.size < (W5.alloc (.cells #[e0.kv,e0.vv] 115)).heap.size:=by omega
  have d0:=(b5.cell (p:=⟨W5.heap.size,0,none⟩) hlt).trans c0
  have d1:=(b5.cell (p:=(⟨W5.heap.size,0,none⟩:Addr).add 1) hlt).trans c1
  obtain ⟨v6,w6,hr6,P6,S6⟩:=app_pq (a:=⟨W5.heap.size,0,none⟩) 27 P5 b5.size (he.keep b05) htl d0 d1
  have b6:=Spr_below S6 b5.size
  obtain ⟨b,c,rfl⟩:=P6.blkc hne hlen
  exact ⟨v5,w5,b,c,w6,hr5,b05,hr6,b05.trans (b6.mono (by omega)),P6.low (by omega)⟩
theorem RO.laid {w w7:World} {z:Nat->Prop} {q n:Nat} {X:Nat->Prop} {lv wv:Value} {es es7:List En} {W:List Ents} {b7 m7 c7:Nat} (h:RO w z X q lv wv es W n) (hZ:∀ b,w.heap.size<=b->z b) (B:Below w.heap.size w w7) (P7:Pq w7 w.heap.size z (.slice (some ⟨b7,0,none⟩) m7 c7) es7) {E':Ents} (hE:es7.map En.kl2=E') (hr:Rise E') (hs:∀ x∈E',x.1.length<=1000000000/\x.2.length<=1000000000) :
  ∃ X',RS (w7.setCell ⟨q,0,none⟩ (.slice (some ⟨b7,0,none⟩) m7 c7)) z X' q E' W n/\(∀ b,X' b->X b\/w.heap.size<=b)/\(∀ b,X b->X' b)/\Chg (· = q) w (w7.setCell ⟨q,0,none⟩ (.slice (some ⟨b7,0,none⟩) m7 c7)):=by
 have h7:=h.keep B
 have hqs:=(h.xz q h.xq).2
 have C9:Chg (· = q) w7 (w7.setCell ⟨q,0,none⟩ (.slice (some ⟨b7,0,none⟩) m7 c7)):=(Chg.refl (fun x=>x=q) w7).cell (.inl rfl) _
 have hb7:w.heap.size<=b7/\b7 < w7.heap.size:=by
  rcases P7.ex with ⟨e,_⟩ | ⟨b,c,e,hb,hR⟩
  ·cases e
  ·cases e; exact ⟨hb,hR.lt⟩
 have P9:=pq_chg P7 C9 (fun b m c e hy=>by cases e; have hy':b7=q:=hy; omega) h7.noU
 refine ⟨fun b=>X b\/b=b7,⟨⟨_,_,h7.top.setCell (i:=0) _,⟨⟨es7,P9.low (Nat.zero_le _),hE⟩,fun b m c e=>by cases e; exact .inr rfl⟩,(h7.was.chg C9 (fun b e _=>by subst e; exact ⟨_,_,h7.top,by decide,by decide⟩) h7.noU).mono fun _ h=>.inl h⟩,.inl h.xq,fun b hx => ?_,hr,hs⟩,fun b hx=>hx.imp id (fun e=>by rw [e]; exact hb7.1),fun _ h=>.inl h,(Chg.of (F:=fun x=>x=q) B).trans C9 (fun _ _ h=>h)⟩
 have hs9:=C9.size
 rcases hx with hx | rfl
 ·have h1:=h7.xz b hx
  exact ⟨h1.1,by omega⟩
 ·exact ⟨hZ _ hb7.1,by omega⟩
set_option maxHeartbeats 2000000 in
set_option maxRecDepth 100000 in
theorem rset_ok {w:World} {z:Nat->Prop} {q n:Nat} {X:Nat->Prop} {E:Ents} {W:List Ents} {kv vv:Value} {k v:List Int} (h:RS w z X q E W n) (hZ:∀ b,w.heap.size<=b->z b) (hk:By w kv k) (hv:By w vv v) (hkq:By (w.setCell ⟨q,2,none⟩ (.int .i64 ((n + 1:Nat):Int))) kv k) (hvq:By (w.setCell ⟨q,2,none⟩ (.int .i64 ((n + 1:Nat):Int))) vv v) (hk0:¬ k.length=0) (hk1:k.length<=64) (hv1:v.length<=4096) (hn:n<=4000000000000000000) (hm:E.length<=1000000) :
  Calls Tryz.prog 31 #[.pointer (some ⟨q,0,none⟩),kv,vv] w (FinRX w z X q (put E k v) W (n + 1) 0):=by
 obtain ⟨lv,wv,es,R0,he⟩:=h.ro
 obtain ⟨R1,C1⟩:=R0.done (m:=n + 1)
 have hel:es.length=E.length:=by rw [<- he,List.length_map]
 have up:=rplace (m:=E.length) R1.top R1.row (by rw [he]; exact h.rise) hkq (by omega) (fun e hx=>(h.small e.kl2 (by rw [<- he]; exact List.mem_map_of_mem hx)).1) hel hm
 rw [he] at up
 obtain ⟨k1,-,k3,-⟩:=cnt_look h.rise k
 obtain ⟨la,lc,rfl⟩:=R0.row.shape
 obtain ⟨ka,kc,rfl,-⟩:=id hk.ex
 obtain ⟨va,vc,rfl,-⟩:=id hv.ex
 obtain ⟨lo,hlo⟩:∃ lo,Hid (cnt E k=lo):=⟨_,rfl⟩
 have hlo5:lo<=es.length:=by rw [<- hlo.out,hel]; exact cnt_le E k
 have hpr:Rise (put E k v)/\∀ x∈put E k v,x.1.length<=1000000000/\x.2.length<=1000000000:=⟨h.rise.put k v,fun x hx=>by
  rcases List.mem_append.1 hx with hx | hx
  ·exact h.small x (List.mem_filter.1 hx).1
  ·rcases List.mem_cons.1 hx with rfl | hx
   ·exact ⟨by show k.length<=_; omega,by show v.length<=_; omega⟩
   ·exact h.small x (List.mem_filter.1 hx).1⟩
 have hput:put E k v=E.take lo ++ (k,v) :: E.drop (lo + if (look E k).isSome then 1 else 0):=by rw [<- hlo.out]; exact congrFun k3 v
 have hlo6:lo + (if (look E k).isSome then 1 else 0)<=es.length:=by
  split
  ·rename_i hs
   rw [hs] at k1
   rw [hlo.out] at k1
   cases e:E[lo]? with
   | none=>rw [e] at k1; cases k1
   | some y=>have:=(List.getElem?_eq_some_iff.1 e).1; omega
  ·exact hlo5
 obtain ⟨is,his⟩:∃ is,Hid ((look E k).isSome=is):=⟨_,rfl⟩
 rw [hlo.out,his.out] at up
 rw [his.out] at hput hlo6
 obtain ⟨kn,hkn⟩:∃ kn,Hid (k.length=kn):=⟨_,rfl⟩
 obtain ⟨vn,hvn⟩:∃ vn,Hid (v.length=vn):=⟨_,rfl⟩
 obtain ⟨ln,hln⟩:∃ ln,Hid (es.length=ln):=⟨_,rfl⟩
 rw [hkn.out] at hk0 hk1 up hkq ⊢
 rw [hvn.out] at hv1 hvq ⊢
 rw [hln.out] at R0 R1
 have d2:=R0.top.cell (i:=2) rfl
 have f2:=R0.top.free 2
 have e5:((n:Int) + 1)=((n + 1:Nat):Int):=by omega
 obtain ⟨W1,hW1⟩:∃ W1,Hid (w.setCell ⟨q,2,none⟩ (.int .i64 ((n + 1:Nat):Int))=W1):=⟨_,rfl⟩
 have hW2:w.setCell ⟨q,2,none⟩ (.int .i64 ((n:Int) + 1))=W1:=by rw [e5]; exact hW1.out
 rw [hW1.out] at up R1 C1 hkq hvq
 have up':=hid3 up
 have HR1:=hid3 R1
 have HC1:=hid3 C1
 have HK:=hid3 hkq
 have HV:=hid3 hvq
 have HE:=hid3 he
 have HX:=hid3 h.noU
 have HPR:=hid3 hpr
 have HPU:=hid3 hput
 have hZ':=hid3 hZ
 have hel':=hid3 hel
 have hqx:=(h.xz q h.xq).2
 have hln5:=hlo5
 have hln6:=hlo6
 rw [hln.out] at hln5 hln6
 have hk2:¬ ((kn:Int) < 1):=by omega
 have hk3:¬ ((64:Int) < kn):=by omega
 have hv3:¬ ((4096:Int) < vn):=by omega
 have hkl9:k.length<=1000000000:=by have:=hkn.out; omega
 have hvl9:v.length<=1000000000:=by have:=hvn.out; omega
 clear R1 C1 up h hk hv hkq hvq he e5 hel R0 k1 k3 hput hpr hZ
 go_enter Tryz.func31,Tryz.ntmps31
 go_wp2_with first
  | (go_at_call 71; go_must (refine up'.out.mono ?_); rintro e w2 ⟨rfl,B2⟩; clear up')
  | (go_at_call 72; have gate:=B3; clear gate; go_must (refine (Pg.copyBytes_any ((HV.out.keep B2).keep B3) hvl9).mono ?_); rintro e w3 ⟨v3,rfl,V3,B4⟩; obtain ⟨a3,c3,e3⟩:=V3.shape; rw [hvn.out] at e3; subst e3)
  | (go_at_call 72; go_must (refine (Pg.copyBytes_any (HK.out.keep B2) hkl9).mono ?_); rintro e w3a ⟨v2,rfl,V2,B3⟩; obtain ⟨a2,c2,e2⟩:=V2.shape; rw [hkn.out] at e2; subst e2)
 have b4:=below_alloc w3 (.cells #[.slice a2 kn c2,.slice a3 vn c3] 115)
 have B05:=joinB (joinB (joinB B2 B3) B4) b4
 have x05:=hid3 ((blk_new w3 [.slice a2 kn c2,.slice a3 vn c3] 115).cell (i:=0) rfl)
 have x15:=hid3 ((blk_new w3 [.slice a2 kn c2,.slice a3 vn c3] 115).cell (i:=1) rfl)
 have he5:=size_al w3 (.cells #[.slice a2 kn c2,.slice a3 vn c3] 115)
 have EN:=hid3 (show EnA (w3.alloc (.cells #[.slice a2 kn c2,.slice a3 vn c3] 115)) z ⟨.slice a2 kn c2,k,.slice a3 vn c3,v⟩ from ⟨((V2.keep B4).keep b4).mono (fun b _ hb=>hZ'.out b (by have:=HC1.out.size; have:=B2.size; omega)),(V3.keep b4).mono (fun b _ hb=>hZ'.out b (by have:=HC1.out.size; have:=B2.size; have:=B3.size; omega))⟩)
 obtain ⟨W5,hW5⟩:∃ W5,Hid (w3.alloc (.cells #[.slice a2 kn c2,.slice a3 vn c3] 115)=W5):=⟨_,rfl⟩
 rw [hW5.out] at b4 B05 x05 x15 he5 EN ⊢
 have R5:=hid3 (HR1.out.keep B05)
 have HP5:=hid3 R5.out.row
 have c05:=hid3 (R5.out.top.cell (i:=0) rfl)
 have hZ5:∀ b,W5.heap.size<=b->z b:=fun b hb=>hZ'.out b (by have:=HC1.out.size; have:=B05.size; omega)
 have hq5:q < W5.drew.heap.size:=(R5.out.xz q R5.out.xq).2
 replace he5:w3.heap.size < W5.drew.heap.size:=by show w3.heap.size < W5.heap.size; omega
 obtain ⟨⟨v5a,w5a,b6a,c6a,w6a,hr5a,B5a,hr6a,B6a,P6a⟩,⟨v5b,w5b,b6b,c6b,w6b,hr5b,B5b,hr6b,B6b,P6b⟩⟩:=built2 (W5:=W5.drew) (HP5.out.keep (belowD' W5)) (EN.out.keep (belowD' W5)) hlo5 (by rw [hel'.out]; exact hm)
 replace hr5a:=hid3 hr5a
 replace hr6a:=hid3 hr6a
 replace hr5b:=hid3 hr5b
 replace hr6b:=hid3 hr6b
 replace B5a:=hid3 B5a
 replace B6a:=hid3 B6a
 replace B5b:=hid3 B5b
 replace B6b:=hid3 B6b
 replace P6a:=hid3 P6a
 replace P6b:=hid3 P6b
 clear hZ'
 refine rg_mid (X:=Value × Value × Nat × Nat) (fun x=>[(some 40,.slice none 0 0),(some 41,.pointer (some ⟨q,0,none⟩)),(some 42,.pointer (some ⟨q,0,none⟩)),(some 43,.pointer (some ⟨q,0,none⟩)),(some 44,.slice la ln lc),(some 45,.int .i64 lo),(some 46,.slice la lo lc),(some 47,x.1),(some 48,.agg #[.slice a2 kn c2,.slice a3 vn c3]),(some 49,x.2.1),(some 50,.slice (some ⟨x.2.2.1,0,none⟩) (lo + 1) x.2.2.2),(some 10,.slice (some ⟨x.2.2.1,0,none⟩) (lo + 1) x.2.2.2)]) (fun x w'=>Pq w' W5.heap.size z (.slice (some ⟨x.2.2.1,0,none⟩) (lo + 1) x.2.2.2) (es.take lo ++ [(⟨.slice a2 kn c2,k,.slice a3 vn c3,v⟩:En)])/\Below W5.heap.size W5 w') (fun w'=>Below W5.drew.heap.size W5.drew w') (by kernel_rfl) (Below.refl _ _) ?_ ?_
 ·refine rg_take 0 (some 40) (.slice none 0 0) (by kernel_rfl) (fun _ _=>by kernel_rfl) (fun _ _ _ h=>h) (Below.refl _ _) ?_
  refine rg_take 1 (some 41) (.pointer (some ⟨q,0,none⟩)) (by kernel_rfl) (fun _ _=>by kernel_rfl) (fun _ _ _ h=>h) (Below.refl _ _) ?_
  refine rg_take 2 (some 42) (.pointer (some ⟨q,0,none⟩)) (by kernel_rfl) (fun _ _=>by kernel_rfl) (fun _ _ _ h=>h) (Below.refl _ _) ?_
  refine rg_take 3 (some 43) (.pointer (some ⟨q,0,none⟩)) (by kernel_rfl) (fun _ _=>by kernel_rfl) (fun _ _ _ h=>h) (Below.refl _ _) ?_
  refine rg_load 4 (some 44) (.slice la ln lc) 27 43 q 0 (by kernel_rfl) (by kernel_rfl) (by kernel_rfl) (fun w' h=>ld_ll ((h.cell (p:=⟨q,0,none⟩) hq5).trans c05.out)) (fun _ _ _ h=>h) (Below.refl _ _) ?_
  refine rg_take 5 (some 45) (.int .i64 lo) (by kernel_rfl) (fun _ _=>by kernel_rfl) (fun _ _ _ h=>h) (Below.refl _ _) ?_
  refine rg_take 6 (some 46) (.slice la lo lc) (by kernel_rfl) (fun _ _=>run_slh' (x:=44) (y:=45) HP5.out (by kernel_rfl) (by kernel_rfl) (by kernel_rfl) hlo5 _) (fun _ _ _ h=>h) (Below.refl _ _) ?_
  refine rg_load 8 (some 48) (.agg #[.slice a2 kn c2,.slice a3 vn c3]) 115 9 w3.heap.size 0 (by kernel_rfl) (by kernel_rfl) (by kernel_rfl) (fun w' h=>ld_pr ((h.cell (p:=⟨w3.heap.size,0,none⟩) he5).trans x05.out) ((h.cell (p:=⟨w3.heap.size,1,none⟩) he5).trans x15.out)) (fun _ _ _ h=>h) (Below.refl _ _) ?_
  refine rg_ready [7,9] (by kernel_rfl) (by simp) ?_
  refine ar_val 7 (some 47) v5a w5a (by kernel_rfl) (run_ap (x:=40) (y:=46) (T:=27) (ty:=27) (by kernel_rfl) (by kernel_rfl) (by kernel_rfl) (by kernel_rfl) hr5a.out) B5a.out ?_ (ar_val 9 (some 49) (.slice (some ⟨W5.drew.heap.size,0,none⟩) 1 1) (W5.drew.alloc (.cells #[.slice a2 kn c2,.slice a3 vn c3] 115)) (by kernel_rfl) (run_bsq (k:=48) (by kernel_rfl) (by kernel_rfl)) (below_alloc _ _) ?_ ar_nil)
  ·refine rg_ready [9] (by kernel_rfl) (by simp) (ar_val 9 (some 49) (.slice (some ⟨w5a.heap.size,0,none⟩) 1 1) (w5a.alloc (.cells #[.slice a2 kn c2,.slice a3 vn c3] 115)) (by kernel_rfl) (run_bsq (k:=48) (by kernel_rfl) (by kernel_rfl)) (joinB B5a.out (below_alloc _ _)) ?_ ar_nil)
   refine rg_ready [10] (by kernel_rfl) (by simp) (ar_val 10 (some 50) (.slice (some ⟨b6a,0,none⟩) (lo + 1) c6a) w6a (by kernel_rfl) (run_ap (x:=47) (y:=49) (T:=27) (ty:=27) (by kernel_rfl) (by kernel_rfl) (by kernel_rfl) (by kernel_rfl) hr6a.out) B6a.out ?_ ar_nil)
   refine rg_take 11 (some 10) (.slice (some ⟨b6a,0,none⟩) (lo + 1) c6a) (by kernel_rfl) (fun _ _=>by kernel_rfl) (fun _ _ _ h=>h) B6a.out ?_
   refine rg_done (by kernel_rfl) ?_
   exact ⟨(v5a,.slice (some ⟨w5a.heap.size,0,none⟩) 1 1,b6a,c6a),by kernel_rfl,P6a.out,joinB (belowD' W5) B6a.out⟩
  ·refine rg_ready [7] (by kernel_rfl) (by simp) (ar_val 7 (some 47) v5b w5b (by kernel_rfl) (run_ap (x:=40) (y:=46) (T:=27) (ty:=27) (by kernel_rfl) (by kernel_rfl) (by kernel_rfl) (by kernel_rfl) hr5b.out) B5b.out ?_ ar_nil)
   refine rg_ready [10] (by kernel_rfl) (by simp) (ar_val 10 (some 50) (.slice (some ⟨b6b,0,none⟩) (lo + 1) c6b) w6b (by kernel_rfl) (run_ap (x:=47) (y:=49) (T:=27) (ty:=27) (by kernel_rfl) (by kernel_rfl) (by kernel_rfl) (by kernel_rfl) hr6b.out) B6b.out ?_ ar_nil)
   refine rg_take 11 (some 10) (.slice (some ⟨b6b,0,none⟩) (lo + 1) c6b) (by kernel_rfl) (fun _ _=>by kernel_rfl) (fun _ _ _ h=>h) B6b.out ?_
   refine rg_done (by kernel_rfl) ?_
   exact ⟨(v5b,.slice (some ⟨W5.drew.heap.size,0,none⟩) 1 1,b6b,c6b),by kernel_rfl,P6b.out,joinB (belowD' W5) B6b.out⟩
 rintro ⟨v5,v49,b6,c6⟩ w6 ⟨P6,B6⟩
 dsimp only at P6
 simp only [putAll,Act.put,List.setIfInBounds_toArray,List.set_cons_zero,List.set_cons_succ]
 clear hr5a hr6a hr5b hr6b B5a B6a B5b B6b P6a P6b x05 x15 EN hW5 V2 V3
 have h6:(es.take lo ++ [(⟨.slice a2 kn c2,k,.slice a3 vn c3,v⟩:En)]).length=lo + 1:=by simp; omega
 obtain ⟨lp,hlp⟩:∃ lp,Hid (lo + (if is=true then 1 else 0)=lp):=⟨_,rfl⟩
 rw [hlp.out] at hlo6 hln6 HPU
 obtain ⟨v7,w7,hr7,P7,S7⟩:=app_drop (i:=lp) P6 B6.size (HP5.out.keep B6) hlo6 (by rw [h6,hel'.out]; have:=hlo5; rw [hel'.out] at this; omega)
 have B7:=B6.trans (Spr_below S7 B6.size)
 have h7:(es.take lo ++ [(⟨.slice a2 kn c2,k,.slice a3 vn c3,v⟩:En)] ++ es.drop lp).length=lo + 1 + (ln - lp):=by rw [List.length_append,h6,List.length_drop,hln.out]
 obtain ⟨b7,c7,rfl⟩:=P7.blkc (by simp) h7
 obtain ⟨X',hRX,hX1,hX2,hX3⟩:=R5.out.laid hZ5 B7 P7 (E':=put E k v) (by rw [HPU.out,List.map_append,List.map_append,List.map_take,List.map_drop,HE.out]; simp [En.kl2]) HPR.out.1 HPR.out.2
 have FF:=hid3 (show ∃ X',RS (w7.setCell ⟨q,0,none⟩ (.slice (some ⟨b7,0,none⟩) (lo + 1 + (ln - lp)) c7)) z X' q (put E k v) W (n + 1)/\(∀ b,X' b->X b\/w.heap.size<=b)/\(∀ b,X b->X' b)/\Chg (XU w X) w (w7.setCell ⟨q,0,none⟩ (.slice (some ⟨b7,0,none⟩) (lo + 1 + (ln - lp)) c7)) from ⟨X',hRX,fun b hb=>(hX1 b hb).imp id (fun h=>by have:=HC1.out.size; have:=B05.size; omega),hX2,((HC1.out.trans (Chg.of (F:=fun _=>False) B05) (fun _ _ h=>h.elim)).trans hX3 (fun _ _ h=>h)).mono (fun x _ e=>by have e':x=q:=e; subst e'; exact HX.out)⟩)
 have c06:=(R5.out.keep B6).top.cell (i:=0) rfl
 have c07:=(R5.out.keep B7).top.cell (i:=0) rfl
 have f07:=(R5.out.keep B7).top.free 0
 clear P6 S7 P7 hRX hX1 hX2 hX3 HR1 R5 HPU HPR B05 hZ5 c05
 have hlob:lo<=1000000:=by have:=hel'.out; omega
 rename_i hK0
 refine hK0 _ _ ?_
 clear hK0
 cases is with
 | false =>
  refine wp_seq ?_
  refine wp_seq ?_
  refine wp_region_lit ?_
  refine wk_take (some 51) (.bool false) rfl rfl (by kernel_rfl) ?_
  refine wk_end ?_
  refine wp_cond_false (by kernel_rfl) ?_
  refine wp_skip_then ?_
  have hlz:((lo:Nat):Int)=(lp:Int):=by have h:=hlp.out; simp at h; omega
  refine wp_seq ?_
  refine wp_region_lit ?_
  refine wk_take (some 54) (.pointer (some ⟨q,0,none⟩)) rfl rfl (by kernel_rfl) ?_
  refine wk_take (some 55) (.slice (some ⟨b6,0,none⟩) (lo + 1) c6) rfl rfl (by kernel_rfl) ?_
  refine wk_take (some 56) (.pointer (some ⟨q,0,none⟩)) rfl rfl (by kernel_rfl) ?_
  refine wk_take (some 57) (.pointer (some ⟨q,0,none⟩)) rfl rfl (by kernel_rfl) ?_
  refine wk_take (some 58) (.pointer (some ⟨q,0,none⟩)) rfl rfl (by kernel_rfl) ?_
  refine wk_take (some 59) (.slice la ln lc) rfl rfl (run_lp 58 (by kernel_rfl) (by kernel_rfl) (ld_ll c06)) ?_
  refine wk_take (some 60) (.int .i64 lo) rfl rfl (by kernel_rfl) ?_
  refine wk_take (some 61) (.slice (offL la lc lp) (ln - lp) (lc - lp)) rfl rfl (run_sll' (x:=59) (y:=60) HP5.out (by kernel_rfl) (by kernel_rfl) (by kernel_rfl) hlz hlo6 _) ?_
  refine wk_val (some 62) (.slice (some ⟨b7,0,none⟩) (lo + 1 + (ln - lp)) c7) rfl rfl (run_ap (x:=55) (y:=61) (T:=27) (ty:=27) (by kernel_rfl) (by kernel_rfl) (by kernel_rfl) (by kernel_rfl) hr7) ?_
  refine wk_take (some 63) (.pointer (some ⟨q,0,none⟩)) rfl rfl (by kernel_rfl) ?_
  refine wk_take (some 64) (.pointer (some ⟨q,0,none⟩)) rfl rfl (by kernel_rfl) ?_
  refine wk_skip (w1:=w7.setCell ⟨q,0,none⟩ (.slice (some ⟨b7,0,none⟩) (lo + 1 + (ln - lp)) c7)) rfl rfl (run_sol 64 62 (by kernel_rfl) (by kernel_rfl) (by kernel_rfl) c07 f07) ?_
  refine wk_end ?_
  simp only [Act.put,List.setIfInBounds_toArray,List.set_cons_zero,List.set_cons_succ]
  go_wp2
  go_ret
  exact ⟨rfl,FF.out⟩
 | true =>
  refine wp_seq ?_
  refine wp_seq ?_
  refine wp_region_lit ?_
  refine wk_take (some 51) (.bool true) rfl rfl (by kernel_rfl) ?_
  refine wk_end ?_
  refine wp_cond_true (by kernel_rfl) ?_
  refine wp_region_lit ?_
  refine wk_take (some 52) (.int .i64 lo) rfl rfl (by kernel_rfl) ?_
  refine wk_take (some 53) (.int .i64 ((lo:Int) + 1)) rfl rfl (run_add1 (x:=52) (by kernel_rfl) (by kernel_rfl) (by omega)) ?_
  refine wk_take (some 7) (.int .i64 ((lo:Int) + 1)) rfl rfl (by kernel_rfl) ?_
  refine wk_end ?_
  have hlz:((lo:Int) + 1)=(lp:Int):=by have h:=hlp.out; simp at h; omega
  refine wp_seq ?_
  refine wp_region_lit ?_
  refine wk_take (some 54) (.pointer (some ⟨q,0,none⟩)) rfl rfl (by kernel_rfl) ?_
  refine wk_take (some 55) (.slice (some ⟨b6,0,none⟩) (lo + 1) c6) rfl rfl (by kernel_rfl) ?_
  refine wk_take (some 56) (.pointer (some ⟨q,0,none⟩)) rfl rfl (by kernel_rfl) ?_
  refine wk_take (some 57) (.pointer (some ⟨q,0,none⟩)) rfl rfl (by kernel_rfl) ?_
  refine wk_take (some 58) (.pointer (some ⟨q,0,none⟩)) rfl rfl (by kernel_rfl) ?_
  refine wk_take (some 59) (.slice la ln lc) rfl rfl (run_lp 58 (by kernel_rfl) (by kernel_rfl) (ld_ll c06)) ?_
  refine wk_take (some 60) (.int .i64 ((lo:Int) + 1)) rfl rfl (by kernel_rfl) ?_
  refine wk_take (some 61) (.slice (offL la lc lp) (ln - lp) (lc - lp)) rfl rfl (run_sll' (x:=59) (y:=60) HP5.out (by kernel_rfl) (by kernel_rfl) (by kernel_rfl) hlz hlo6 _) ?_
  refine wk_val (some 62) (.slice (some ⟨b7,0,none⟩) (lo + 1 + (ln - lp)) c7) rfl rfl (run_ap (x:=55) (y:=61) (T:=27) (ty:=27) (by kernel_rfl) (by kernel_rfl) (by kernel_rfl) (by kernel_rfl) hr7) ?_
  refine wk_take (some 63) (.pointer (some ⟨q,0,none⟩)) rfl rfl (by kernel_rfl) ?_
  refine wk_take (some 64) (.pointer (some ⟨q,0,none⟩)) rfl rfl (by kernel_rfl) ?_
  refine wk_skip (w1:=w7.setCell ⟨q,0,none⟩ (.slice (some ⟨b7,0,none⟩) (lo + 1 + (ln - lp)) c7)) rfl rfl (run_sol 64 62 (by kernel_rfl) (by kernel_rfl) (by kernel_rfl) c07 f07) ?_
  refine wk_end ?_
  simp only [Act.put,List.setIfInBounds_toArray,List.set_cons_zero,List.set_cons_succ]
  go_wp2
  go_ret
  exact ⟨rfl,FF.out⟩
set_option maxHeartbeats 2000000 in
set_option maxRecDepth 100000 in
theorem rset_e0 {w:World} {z:Nat->Prop} {q n:Nat} {X:Nat->Prop} {E:Ents} {W:List Ents} {kv vv:Value} {k v:List Int} (h:RS w z X q E W n) (hk:By w kv k) (hv:By w vv v) (h0:k.length=0) (hn:n<=4000000000000000000) :
  Calls Tryz.prog 31 #[.pointer (some ⟨q,0,none⟩),kv,vv] w (FinRX w z X q E W (n + 1) 60):=by
 obtain ⟨lv,wv,hb,-,-⟩:=h.ex
 obtain ⟨R1,C1⟩:=h.done (m:=n + 1)
 obtain ⟨ka,kc,rfl,-⟩:=id hk.ex
 obtain ⟨va,vc,rfl,-⟩:=id hv.ex
 have d2:=hb.cell (i:=2) rfl
 have f2:=hb.free 2
 have e5:((n:Int) + 1)=((n + 1:Nat):Int):=by omega
 obtain ⟨W1,hW1⟩:∃ W1,Hid (w.setCell ⟨q,2,none⟩ (.int .i64 ((n + 1:Nat):Int))=W1):=⟨_,rfl⟩
 have hW2:w.setCell ⟨q,2,none⟩ (.int .i64 ((n:Int) + 1))=W1:=by rw [e5]; exact hW1.out
 rw [hW1.out] at R1 C1
 have FF:=hid3 (show ∃ X',RS W1 z X' q E W (n + 1)/\(∀ b,X' b->X b\/w.heap.size<=b)/\(∀ b,X b->X' b)/\Chg (XU w X) w W1 from ⟨X,R1,fun _ h=>.inl h,fun _ h=>h,C1.mono (fun x _ e=>by have e':x=q:=e; subst e'; exact h.noU)⟩)
 obtain ⟨kn,hkn⟩:∃ kn,Hid (k.length=kn):=⟨_,rfl⟩
 obtain ⟨vn,hvn⟩:∃ vn,Hid (v.length=vn):=⟨_,rfl⟩
 rw [hkn.out,hvn.out]
 have hkk:=hkn.out
 have hvv:=hvn.out
 have hk2:((kn:Int) < 1):=by omega
 clear hb R1 C1 h hk hv e5 hkk hvv
 go_enter Tryz.func31,Tryz.ntmps31
 go_wp2
 go_ret
 exact ⟨rfl,FF.out⟩
set_option maxHeartbeats 2000000 in
set_option maxRecDepth 100000 in
theorem rset_e1 {w:World} {z:Nat->Prop} {q n:Nat} {X:Nat->Prop} {E:Ents} {W:List Ents} {kv vv:Value} {k v:List Int} (h:RS w z X q E W n) (hk:By w kv k) (hv:By w vv v) (h1:64 < k.length) (hn:n<=4000000000000000000) :
  Calls Tryz.prog 31 #[.pointer (some ⟨q,0,none⟩),kv,vv] w (FinRX w z X q E W (n + 1) 60):=by
 obtain ⟨lv,wv,hb,-,-⟩:=h.ex
 obtain ⟨R1,C1⟩:=h.done (m:=n + 1)
 obtain ⟨ka,kc,rfl,-⟩:=id hk.ex
 obtain ⟨va,vc,rfl,-⟩:=id hv.ex
 have d2:=hb.cell (i:=2) rfl
 have f2:=hb.free 2
 have e5:((n:Int) + 1)=((n + 1:Nat):Int):=by omega
 obtain ⟨W1,hW1⟩:∃ W1,Hid (w.setCell ⟨q,2,none⟩ (.int .i64 ((n + 1:Nat):Int))=W1):=⟨_,rfl⟩
 have hW2:w.setCell ⟨q,2,none⟩ (.int .i64 ((n:Int) + 1))=W1:=by rw [e5]; exact hW1.out
 rw [hW1.out] at R1 C1
 have FF:=hid3 (show ∃ X',RS W1 z X' q E W (n + 1)/\(∀ b,X' b->X b\/w.heap.size<=b)/\(∀ b,X b->X' b)/\Chg (XU w X) w W1 from ⟨X,R1,fun _ h=>.inl h,fun _ h=>h,C1.mono (fun x _ e=>by have e':x=q:=e; subst e'; exact h.noU)⟩)
 obtain ⟨kn,hkn⟩:∃ kn,Hid (k.length=kn):=⟨_,rfl⟩
 obtain ⟨vn,hvn⟩:∃ vn,Hid (v.length=vn):=⟨_,rfl⟩
 rw [hkn.out,hvn.out]
 have hkk:=hkn.out
 have hvv:=hvn.out
 have hk2:¬ ((kn:Int) < 1):=by omega
 have hk3:((64:Int) < kn):=by omega
 clear hb R1 C1 h hk hv e5 hkk hvv
 go_enter Tryz.func31,Tryz.ntmps31
 go_wp2
 go_ret
 exact ⟨rfl,FF.out⟩
set_option maxHeartbeats 2000000 in
set_option maxRecDepth 100000 in
theorem rset_e2 {w:World} {z:Nat->Prop} {q n:Nat} {X:Nat->Prop} {E:Ents} {W:List Ents} {kv vv:Value} {k v:List Int} (h:RS w z X q E W n) (hk:By w kv k) (hv:By w vv v) (h0:¬ k.length=0) (h1:¬ 64 < k.length) (h2:4096 < v.length) (hn:n<=4000000000000000000) :
  Calls Tryz.prog 31 #[.pointer (some ⟨q,0,none⟩),kv,vv] w (FinRX w z X q E W (n + 1) 61):=by
 obtain ⟨lv,wv,hb,-,-⟩:=h.ex
 obtain ⟨R1,C1⟩:=h.done (m:=n + 1)
 obtain ⟨ka,kc,rfl,-⟩:=id hk.ex
 obtain ⟨va,vc,rfl,-⟩:=id hv.ex
 have d2:=hb.cell (i:=2) rfl
 have f2:=hb.free 2
 have e5:((n:Int) + 1)=((n + 1:Nat):Int):=by omega
 obtain ⟨W1,hW1⟩:∃ W1,Hid (w.setCell ⟨q,2,none⟩ (.int .i64 ((n + 1:Nat):Int))=W1):=⟨_,rfl⟩
 have hW2:w.setCell ⟨q,2,none⟩ (.int .i64 ((n:Int) + 1))=W1:=by rw [e5]; exact hW1.out
 rw [hW1.out] at R1 C1
 have FF:=hid3 (show ∃ X',RS W1 z X' q E W (n + 1)/\(∀ b,X' b->X b\/w.heap.size<=b)/\(∀ b,X b->X' b)/\Chg (XU w X) w W1 from ⟨X,R1,fun _ h=>.inl h,fun _ h=>h,C1.mono (fun x _ e=>by have e':x=q:=e; subst e'; exact h.noU)⟩)
 obtain ⟨kn,hkn⟩:∃ kn,Hid (k.length=kn):=⟨_,rfl⟩
 obtain ⟨vn,hvn⟩:∃ vn,Hid (v.length=vn):=⟨_,rfl⟩
 rw [hkn.out,hvn.out]
 have hkk:=hkn.out
 have hvv:=hvn.out
 have hk2:¬ ((kn:Int) < 1):=by omega
 have hk3:¬ ((64:Int) < kn):=by omega
 have hv3:((4096:Int) < vn):=by omega
 clear hb R1 C1 h hk hv e5 hkk hvv
 go_enter Tryz.func31,Tryz.ntmps31
 go_wp2
 go_ret
 exact ⟨rfl,FF.out⟩
theorem rset {w:World} {z:Nat->Prop} {q n:Nat} {X:Nat->Prop} {E:Ents} {W:List Ents} {kv vv:Value} {k v:List Int} (h:RS w z X q E W n) (hZ:∀ b,w.heap.size<=b->z b) (hk:By w kv k) (hv:By w vv v) (hkq:By (w.setCell ⟨q,2,none⟩ (.int .i64 ((n + 1:Nat):Int))) kv k) (hvq:By (w.setCell ⟨q,2,none⟩ (.int .i64 ((n + 1:Nat):Int))) vv v) (hn:n<=4000000000000000000) (hm:E.length<=1000000) :
  Calls Tryz.prog 31 #[.pointer (some ⟨q,0,none⟩),kv,vv] w (FinRX w z X q (if setE k v=0 then put E k v else E) W (n + 1) (setE k v)):=by
 by_cases h0:k.length=0
 ·have e:setE k v=60:=by unfold setE; rw [if_pos (.inl h0)]
  rw [e,if_neg (by decide)]
  exact rset_e0 h hk hv h0 hn
 ·by_cases h1:64 < k.length
  ·have e:setE k v=60:=by unfold setE; rw [if_pos (.inr h1)]
   rw [e,if_neg (by decide)]
   exact rset_e1 h hk hv h1 hn
  ·by_cases h2:4096 < v.length
   ·have e:setE k v=61:=by unfold setE; rw [if_neg (by omega),if_pos h2]
    rw [e,if_neg (by decide)]
    exact rset_e2 h hk hv h0 h1 h2 hn
   ·have e:setE k v=0:=by unfold setE; rw [if_neg (by omega),if_neg h2]
    rw [e,if_pos rfl]
    exact rset_ok h hZ hk hv hkq hvq h0 (by omega) (by omega) hn hm
end Kv
end Go.Proofs.YtflenlpabmehoaaGreat
namespace Go.Proofs.YtflenlpabmehoaaGreat
namespace Kv
open Go.RowKit Go.Lib Pg
attribute [local go_sem] Oper.semAt_some
theorem run_apk {a:Act} {w w':World} {o:Oper} {y:Nat} {T ty:TypeId} {u v r:Value} (hty:o.type=ty) (ho:o.op=.call { callee:=.builtin .append,args:=#[.const u,.tmp y],argTypes:=#[T,T] }) (hy:a.eval (.tmp y)=v) (hr:(Builtin.append_ #[T,T] ty #[u,v]).run Tryz.prog w=.ok r w') :
  (execOp a.eval o).run Tryz.prog w=.ok (.value r) w':=by
 subst hty
 unfold execOp
 have hx:a.eval (.const u)=u:=rfl
 simp only [ho,resolve,invoke,builtin,Sem.run_bind,Sem.run_pure,Result.andThen_ok,List.map_toArray,List.map_cons,List.map_nil,hx,hy,hr]
theorem RO.laidA {w w7:World} {z:Nat->Prop} {q n:Nat} {X:Nat->Prop} {lv wv:Value} {es es7:List En} {W:List Ents} {a7:Option Addr} {m7 c7:Nat} (h:RO w z X q lv wv es W n) (hZ:∀ b,w.heap.size<=b->z b) (B:Below w.heap.size w w7) (P7:Pq w7 w.heap.size z (.slice a7 m7 c7) es7) {E':Ents} (hE:es7.map En.kl2=E') (hr:Rise E') (hs:∀ x∈E',x.1.length<=1000000000/\x.2.length<=1000000000) :
  ∃ X',RS (w7.setCell ⟨q,0,none⟩ (.slice a7 m7 c7)) z X' q E' W n/\(∀ b,X' b->X b\/w.heap.size<=b)/\(∀ b,X b->X' b)/\Chg (· = q) w (w7.setCell ⟨q,0,none⟩ (.slice a7 m7 c7)):=by
 rcases P7.ex with ⟨e,e2⟩ | ⟨b,c,e,_⟩
 ·cases e
  have h7:=h.keep B
  have C9:Chg (· = q) w7 (w7.setCell ⟨q,0,none⟩ (.slice none 0 0)):=(Chg.refl (fun x=>x=q) w7).cell (.inl rfl) _
  have hs9:=C9.size
  subst e2
  exact ⟨X,⟨⟨_,_,h7.top.setCell (i:=0) _,⟨⟨[],Pq.nil _ _ _,hE⟩,fun b m c e=>by cases e⟩,h7.was.chg C9 (fun b e _=>by subst e; exact ⟨_,_,h7.top,by decide,by decide⟩) h7.noU⟩,h.xq,fun b hx=>⟨(h7.xz b hx).1,by have:=(h7.xz b hx).2; omega⟩,hr,hs⟩,fun _ h=>.inl h,fun _ h=>h,(Chg.of (F:=fun x=>x=q) B).trans C9 (fun _ _ h=>h)⟩
 ·cases e
  exact h.laid hZ B P7 hE hr hs
structure FinRY (w:World) (z:Nat->Prop) (X:Nat->Prop) (q:Nat) (E:Ents) (W:List Ents) (n:Nat) (r:Bool) (e:Ending) (w':World):Prop where
 ret:e=.returned (.bool r)
 ex:∃ X',RS w' z X' q E W n/\(∀ b,X' b->X b\/w.heap.size<=b)/\(∀ b,X b->X' b)/\Chg (XU w X) w w'
set_option maxHeartbeats 2000000 in
set_option maxRecDepth 100000 in
theorem rdel {w:World} {z:Nat->Prop} {q n:Nat} {X:Nat->Prop} {E:Ents} {W:List Ents} {kv:Value} {k:List Int} (h:RS w z X q E W n) (hZ:∀ b,w.heap.size<=b->z b) (hk:By w kv k) (hkq:By (w.setCell ⟨q,2,none⟩ (.int .i64 ((n + 1:Nat):Int))) kv k) (hkl:k.length<=1000000000) (hn:n<=4000000000000000000) (hm:E.length<=1000000) :
  Calls Tryz.prog 55 #[.pointer (some ⟨q,0,none⟩),kv] w (FinRY w z X q (rem E k) W (n + 1) (look E k).isSome):=by
 obtain ⟨lv,wv,es,R0,he⟩:=h.ro
 obtain ⟨R1,C1⟩:=R0.done (m:=n + 1)
 have hel:es.length=E.length:=by rw [<- he,List.length_map]
 have up:=rplace (m:=E.length) R1.top R1.row (by rw [he]; exact h.rise) hkq hkl (fun e hx=>(h.small e.kl2 (by rw [<- he]; exact List.mem_map_of_mem hx)).1) hel hm
 rw [he] at up
 obtain ⟨k1,-,-,k4⟩:=cnt_look h.rise k
 obtain ⟨la,lc,rfl⟩:=R0.row.shape
 obtain ⟨ka,kc,rfl,-⟩:=id hk.ex
 obtain ⟨lo,hlo⟩:∃ lo,Hid (cnt E k=lo):=⟨_,rfl⟩
 have hlo5:lo<=es.length:=by rw [<- hlo.out,hel]; exact cnt_le E k
 have hpr:Rise (rem E k)/\∀ x∈rem E k,x.1.length<=1000000000/\x.2.length<=1000000000:=⟨h.rise.rem k,fun x hx=>h.small x (List.mem_filter.1 hx).1⟩
 rw [hlo.out] at k1 k4
 obtain ⟨kn,hkn⟩:∃ kn,Hid (k.length=kn):=⟨_,rfl⟩
 obtain ⟨ln,hln⟩:∃ ln,Hid (es.length=ln):=⟨_,rfl⟩
 rw [hlo.out,hkn.out] at up
 rw [hkn.out]
 rw [hln.out] at R0 R1
 have d2:=R0.top.cell (i:=2) rfl
 have f2:=R0.top.free 2
 have e5:((n:Int) + 1)=((n + 1:Nat):Int):=by omega
 obtain ⟨W1,hW1⟩:∃ W1,Hid (w.setCell ⟨q,2,none⟩ (.int .i64 ((n + 1:Nat):Int))=W1):=⟨_,rfl⟩
 have hW2:w.setCell ⟨q,2,none⟩ (.int .i64 ((n:Int) + 1))=W1:=by rw [e5]; exact hW1.out
 rw [hW1.out] at up R1 C1
 have HR1:=hid3 R1
 have HC1:=hid3 C1
 have HE:=hid3 he
 have HX:=hid3 h.noU
 have HPR:=hid3 hpr
 have HK4:=hid3 k4
 have hZ':=hid3 hZ
 have hel':=hid3 hel
 have hqx:=(h.xz q h.xq).2
 have hCX:Hid (Chg (XU w X) w W1):=C1.mono (fun x _ e=>by have e':x=q:=e; subst e'; exact h.noU)
 have hsm:=hid3 h.small
 have hri:=hid3 h.rise
 cases hl:(look E k).isSome with
 | false =>
  rw [hl] at up HK4
  have up':=hid3 up
  have hrem:rem E k=E:=by rw [HK4.out]; simp
  rw [hrem]
  clear R1 C1 up h hk hkq he e5 hel R0 k1 k4 hpr hZ hrem
  go_enter Tryz.func55,Tryz.ntmps55
  go_wp2_with (go_at_call 71; go_must (refine up'.out.mono ?_); rintro e w2 ⟨rfl,B2⟩; clear up')
  go_ret
  exact ⟨rfl,X,(HR1.out.keep B2).rs HE.out hri.out hsm.out,fun _ h=>.inl h,fun _ h=>h,hCX.out.trans (Chg.of (F:=XU w X) B2) (fun _ _ h=>h)⟩
 | true =>
  rw [hl] at up HK4 k1
  have up':=hid3 up
  have hlo6:lo + 1<=es.length:=by
   cases e:E[lo]? with
   | none=>rw [e] at k1; cases k1
   | some y=>have:=(List.getElem?_eq_some_iff.1 e).1; omega
  have hlob:lo<=1000000:=by omega
  have hlz:((lo:Int) + 1)=((lo + 1:Nat):Int):=by omega
  clear R1 C1 up h hk hkq he e5 hel R0 k1 k4 hpr hZ
  go_enter Tryz.func55,Tryz.ntmps55
  go_wp2_with (go_at_call 71; go_must (refine up'.out.mono ?_); rintro e W2 ⟨rfl,B2⟩; clear up')
  have R2:=hid3 ((HR1.out.keep B2).keep (belowD' W2))
  have HP1:=hid3 R2.out.row
  have hZ5:∀ b,W2.drew.heap.size<=b->z b:=fun b hb=>hZ'.out b (by have:=HC1.out.size; have:=B2.size; have:W2.heap.size<=b:=hb; omega)
  obtain ⟨v5,w5,hr5,P5,S5⟩:=app_take (ov:=.slice none 0 0) (es:=[]) (Pq.nil W2.drew W2.drew.heap.size z) (Nat.le_refl _) HP1.out hlo5 (by have:=hel'.out; simp; omega)
  rw [List.nil_append] at P5
  have b5:=Spr_below S5 (Nat.le_refl _)
  obtain ⟨v7,w7,hr7,P7,S7⟩:=app_drop (i:=lo + 1) P5 b5.size (HP1.out.keep b5) hlo6 (by rw [List.length_take]; have:=hel'.out; omega)
  have b7:=b5.trans (Spr_below S7 b5.size)
  obtain ⟨a7,c7,rfl⟩:=P7.shape
  obtain ⟨m7,hm7⟩:∃ m7,Hid ((es.take lo ++ es.drop (lo + 1)).length=m7):=⟨_,rfl⟩
  rw [hm7.out] at hr7 P7
  obtain ⟨X',hRX,hX1,hX2,hX3⟩:=R2.out.laidA hZ5 b7 P7 (E':=rem E k) (by rw [HK4.out,List.map_append,List.map_take,List.map_drop,HE.out]; simp) HPR.out.1 HPR.out.2
  have FF:=hid3 (show ∃ X',RS (w7.setCell ⟨q,0,none⟩ (.slice a7 m7 c7)) z X' q (rem E k) W (n + 1)/\(∀ b,X' b->X b\/w.heap.size<=b)/\(∀ b,X b->X' b)/\Chg (XU w X) w (w7.setCell ⟨q,0,none⟩ (.slice a7 m7 c7)) from ⟨X',hRX,fun b hb=>(hX1 b hb).imp id (fun h=>by have:=HC1.out.size; have:=B2.size; have:W2.heap.size<=b:=h; omega),hX2,(hCX.out.trans (Chg.of (F:=XU w X) (joinB B2 (belowD' W2))) (fun _ _ h=>h)).trans hX3 (fun x _ e=>by have e':x=q:=e; subst e'; exact HX.out)⟩)
  have c0d:=hid3 (R2.out.top.cell (i:=0) rfl)
  have c05:=hid3 ((R2.out.keep b5).top.cell (i:=0) rfl)
  have c07:=hid3 ((R2.out.keep b7).top.cell (i:=0) rfl)
  have f07:=hid3 ((R2.out.keep b7).top.free 0)
  replace hr5:=hid3 hr5
  replace hr7:=hid3 hr7
  clear P5 S5 P7 S7 hRX hX1 hX2 hX3 hZ5
  refine rg_start (S:=fun _=>True) (by kernel_rfl) trivial ?_
  refine rg_take 0 (some 21) (.pointer (some ⟨q,0,none⟩)) (by kernel_rfl) (fun _ _=>by kernel_rfl) (fun _ _ _ h=>h) trivial ?_
  refine rg_take 1 (some 22) (.pointer (some ⟨q,0,none⟩)) (by kernel_rfl) (fun _ _=>by kernel_rfl) (fun _ _ _ h=>h) trivial ?_
  refine rg_take 2 (some 23) (.pointer (some ⟨q,0,none⟩)) (by kernel_rfl) (fun _ _=>by kernel_rfl) (fun _ _ _ h=>h) trivial ?_
  refine rg_take 3 (some 24) (.pointer (some ⟨q,0,none⟩)) (by kernel_rfl) (fun _ _=>by kernel_rfl) (fun _ _ _ h=>h) trivial ?_
  refine rg_take 5 (some 26) (.int .i64 lo) (by kernel_rfl) (fun _ _=>by kernel_rfl) (fun _ _ _ h=>h) trivial ?_
  refine rg_take 8 (some 29) (.pointer (some ⟨q,0,none⟩)) (by kernel_rfl) (fun _ _=>by kernel_rfl) (fun _ _ _ h=>h) trivial ?_
  refine rg_take 9 (some 30) (.pointer (some ⟨q,0,none⟩)) (by kernel_rfl) (fun _ _=>by kernel_rfl) (fun _ _ _ h=>h) trivial ?_
  refine rg_take 10 (some 31) (.pointer (some ⟨q,0,none⟩)) (by kernel_rfl) (fun _ _=>by kernel_rfl) (fun _ _ _ h=>h) trivial ?_
  refine rg_take 12 (some 33) (.int .i64 lo) (by kernel_rfl) (fun _ _=>by kernel_rfl) (fun _ _ _ h=>h) trivial ?_
  refine rg_take 13 (some 34) (.int .i64 ((lo:Int) + 1)) (by kernel_rfl) (fun _ _=>run_add1 (x:=33) (by kernel_rfl) (by kernel_rfl) (by omega)) (fun _ _ _ h=>h) trivial ?_
  refine rg_ready [4,11] (by kernel_rfl) (by simp) (ar_val 4 (some 25) (.slice la ln lc) (W2.drew) (by kernel_rfl) (run_lp 24 (by kernel_rfl) (by kernel_rfl) (ld_ll c0d.out)) trivial ?_ (ar_val 11 (some 32) (.slice la ln lc) (W2.drew) (by kernel_rfl) (run_lp 31 (by kernel_rfl) (by kernel_rfl) (ld_ll c0d.out)) trivial ?_ ar_nil))
  ·refine rg_take 6 (some 27) (.slice la lo lc) (by kernel_rfl) (fun _ _=>run_slh' (x:=25) (y:=26) HP1.out (by kernel_rfl) (by kernel_rfl) (by kernel_rfl) hlo5 _) (fun _ _ _ h=>h) trivial ?_
   refine rg_ready [7,11] (by kernel_rfl) (by simp) (ar_val 7 (some 28) v5 w5 (by kernel_rfl) (run_apk (y:=27) (T:=27) (ty:=27) (by kernel_rfl) (by kernel_rfl) (by kernel_rfl) hr5.out) trivial ?_ (ar_val 11 (some 32) (.slice la ln lc) (W2.drew) (by kernel_rfl) (run_lp 31 (by kernel_rfl) (by kernel_rfl) (ld_ll c0d.out)) trivial ?_ ar_nil))
   ·refine rg_ready [11] (by kernel_rfl) (by simp) (ar_val 11 (some 32) (.slice la ln lc) (w5) (by kernel_rfl) (run_lp 31 (by kernel_rfl) (by kernel_rfl) (ld_ll c05.out)) trivial ?_ ar_nil)
    refine rg_take 14 (some 35) (.slice (offL la lc (lo + 1)) (ln - (lo + 1)) (lc - (lo + 1))) (by kernel_rfl) (fun _ _=>run_sll' (x:=32) (y:=34) HP1.out (by kernel_rfl) (by kernel_rfl) (by kernel_rfl) hlz hlo6 _) (fun _ _ _ h=>h) trivial ?_
    refine rg_ready [15] (by kernel_rfl) (by simp) (ar_val 15 (some 36) (.slice a7 m7 c7) w7 (by kernel_rfl) (run_ap (x:=28) (y:=35) (T:=27) (ty:=27) (by kernel_rfl) (by kernel_rfl) (by kernel_rfl) (by kernel_rfl) hr7.out) trivial ?_ ar_nil)
    refine rg_take 16 (some 37) (.pointer (some ⟨q,0,none⟩)) (by kernel_rfl) (fun _ _=>by kernel_rfl) (fun _ _ _ h=>h) trivial ?_
    refine rg_take 17 (some 38) (.pointer (some ⟨q,0,none⟩)) (by kernel_rfl) (fun _ _=>by kernel_rfl) (fun _ _ _ h=>h) trivial ?_
    refine rg_ready [18] (by kernel_rfl) (by simp) (ar_void 18 (w7.setCell ⟨q,0,none⟩ (.slice a7 m7 c7)) (by kernel_rfl) (run_sol 38 36 (by kernel_rfl) (by kernel_rfl) (by kernel_rfl) c07.out f07.out) trivial ?_ ar_nil)
    refine rg_done (by kernel_rfl) ?_
    simp only [Act.put,List.setIfInBounds_toArray,List.set_cons_zero,List.set_cons_succ]
    go_wp2
    go_ret
    exact ⟨rfl,FF.out⟩
   ·refine rg_take 14 (some 35) (.slice (offL la lc (lo + 1)) (ln - (lo + 1)) (lc - (lo + 1))) (by kernel_rfl) (fun _ _=>run_sll' (x:=32) (y:=34) HP1.out (by kernel_rfl) (by kernel_rfl) (by kernel_rfl) hlz hlo6 _) (fun _ _ _ h=>h) trivial ?_
    refine rg_ready [7] (by kernel_rfl) (by simp) (ar_val 7 (some 28) v5 w5 (by kernel_rfl) (run_apk (y:=27) (T:=27) (ty:=27) (by kernel_rfl) (by kernel_rfl) (by kernel_rfl) hr5.out) trivial ?_ ar_nil)
    refine rg_ready [15] (by kernel_rfl) (by simp) (ar_val 15 (some 36) (.slice a7 m7 c7) w7 (by kernel_rfl) (run_ap (x:=28) (y:=35) (T:=27) (ty:=27) (by kernel_rfl) (by kernel_rfl) (by kernel_rfl) (by kernel_rfl) hr7.out) trivial ?_ ar_nil)
    refine rg_take 16 (some 37) (.pointer (some ⟨q,0,none⟩)) (by kernel_rfl) (fun _ _=>by kernel_rfl) (fun _ _ _ h=>h) trivial ?_
    refine rg_take 17 (some 38) (.pointer (some ⟨q,0,none⟩)) (by kernel_rfl) (fun _ _=>by kernel_rfl) (fun _ _ _ h=>h) trivial ?_
    refine rg_ready [18] (by kernel_rfl) (by simp) (ar_void 18 (w7.setCell ⟨q,0,none⟩ (.slice a7 m7 c7)) (by kernel_rfl) (run_sol 38 36 (by kernel_rfl) (by kernel_rfl) (by kernel_rfl) c07.out f07.out) trivial ?_ ar_nil)
    refine rg_done (by kernel_rfl) ?_
    simp only [Act.put,List.setIfInBounds_toArray,List.set_cons_zero,List.set_cons_succ]
    go_wp2
    go_ret
    exact ⟨rfl,FF.out⟩
  ·refine rg_take 14 (some 35) (.slice (offL la lc (lo + 1)) (ln - (lo + 1)) (lc - (lo + 1))) (by kernel_rfl) (fun _ _=>run_sll' (x:=32) (y:=34) HP1.out (by kernel_rfl) (by kernel_rfl) (by kernel_rfl) hlz hlo6 _) (fun _ _ _ h=>h) trivial ?_
   refine rg_ready [4] (by kernel_rfl) (by simp) (ar_val 4 (some 25) (.slice la ln lc) (W2.drew) (by kernel_rfl) (run_lp 24 (by kernel_rfl) (by kernel_rfl) (ld_ll c0d.out)) trivial ?_ ar_nil)
   refine rg_take 6 (some 27) (.slice la lo lc) (by kernel_rfl) (fun _ _=>run_slh' (x:=25) (y:=26) HP1.out (by kernel_rfl) (by kernel_rfl) (by kernel_rfl) hlo5 _) (fun _ _ _ h=>h) trivial ?_
   refine rg_ready [7] (by kernel_rfl) (by simp) (ar_val 7 (some 28) v5 w5 (by kernel_rfl) (run_apk (y:=27) (T:=27) (ty:=27) (by kernel_rfl) (by kernel_rfl) (by kernel_rfl) hr5.out) trivial ?_ ar_nil)
   refine rg_ready [15] (by kernel_rfl) (by simp) (ar_val 15 (some 36) (.slice a7 m7 c7) w7 (by kernel_rfl) (run_ap (x:=28) (y:=35) (T:=27) (ty:=27) (by kernel_rfl) (by kernel_rfl) (by kernel_rfl) (by kernel_rfl) hr7.out) trivial ?_ ar_nil)
   refine rg_take 16 (some 37) (.pointer (some ⟨q,0,none⟩)) (by kernel_rfl) (fun _ _=>by kernel_rfl) (fun _ _ _ h=>h) trivial ?_
   refine rg_take 17 (some 38) (.pointer (some ⟨q,0,none⟩)) (by kernel_rfl) (fun _ _=>by kernel_rfl) (fun _ _ _ h=>h) trivial ?_
   refine rg_ready [18] (by kernel_rfl) (by simp) (ar_void 18 (w7.setCell ⟨q,0,none⟩ (.slice a7 m7 c7)) (by kernel_rfl) (run_sol 38 36 (by kernel_rfl) (by kernel_rfl) (by kernel_rfl) c07.out f07.out) trivial ?_ ar_nil)
   refine rg_done (by kernel_rfl) ?_
   simp only [Act.put,List.setIfInBounds_toArray,List.set_cons_zero,List.set_cons_succ]
   go_wp2
   go_ret
   exact ⟨rfl,FF.out⟩
end Kv
end Go.Proofs.YtflenlpabmehoaaGreat
