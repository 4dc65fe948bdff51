/- Several texts, joined: BkA, BkB, BkC, BkD, PwR. -/
import Derived.Test.YtflenlpabmehoaaGreatJad
import Derived.Test.YtflenlpabmehoaaGreatJae
import Derived.Test.YtflenlpabmehoaaGreatJag
import Derived.Test.YtflenlpabmehoaaGreatJak
import Derived.Test.YtflenlpabmehoaaGreatJaj
namespace Go.Proofs.YtflenlpabmehoaaGreat
namespace Bk
open Go.RowKit Go.Lib Pg Lim Gl Kv
structure Sx (B:Nat) (w:World) (K:Nat->Prop) (g:Nat) (E:Ents) (W:List Ents) (n N:Nat):Prop where
 sa:SA w K (B <= ·) g E W n N
 lo:B<=w.heap.size
 kb:∀ b,K b->B<=b
structure SxE (B:Nat) (w:World) (K:Nat->Prop) (g:Nat) (E:Ents) (W:List Ents) (n N:Nat) (r:Value) (e:Ending) (w':World):Prop where
 ret:e=.returned r
 ex:∃ K',Sx B w' K' g E W n N/\(∀ b,K' b->K b\/w.heap.size<=b)/\Chg K w w'
structure At (B:Nat) (w0:World) (K0:Nat->Prop) (w:World) (K:Nat->Prop) (g:Nat) (E:Ents) (W:List Ents) (n N:Nat):Prop where
 sx:Sx B w K g E W n N
 km:∀ b,K b->K0 b\/w0.heap.size<=b
 cc:Chg K0 w0 w
section
variable {B:Nat} {w0 w w':World} {K0 K K':Nat->Prop} {g:Nat} {E E':Ents} {W W':List Ents} {n N n' N':Nat}
theorem Sx.at (h:Sx B w K g E W n N):At B w K w K g E W n N:=⟨h,fun _ h=>.inl h,Chg.refl _ _⟩
theorem Sx.keep (h:Sx B w K g E W n N) (b:Below w.heap.size w w'):Sx B w' K g E W n N:=⟨h.sa.keep b,Nat.le_trans h.lo b.size,h.kb⟩
theorem At.keep (h:At B w0 K0 w K g E W n N) (b:Below w.heap.size w w'):At B w0 K0 w' K g E W n N:=⟨h.sx.keep b,h.km,h.cc.trans (Chg.of (F:=fun _=>False) b) (fun _ _ h=>h.elim)⟩
theorem At.drew (h:At B w0 K0 w K g E W n N):At B w0 K0 w.drew K g E W n N:=h.keep (Below.refl _ _).drew
theorem At.lt (h:At B w0 K0 w K g E W n N) {b:Nat} (hb:K b):b < w.heap.size:=h.sx.sa.lt hb
theorem At.size (h:At B w0 K0 w K g E W n N):w0.heap.size<=w.heap.size:=h.cc.size
theorem At.cell {x:Nat} {cs:List Value} {t:TypeId} (h:At B w0 K0 w K g E W n N) (X:Blk w x cs t) (C:Chg (· = x) w w') (hx:w0.heap.size<=x) (hk:¬ K x) (ht:t≠5):At B w0 K0 w' K g E W n N:=by
 refine ⟨⟨h.sx.sa.chg C (fun b e hb=>hk ((show b=x from e)▸hb)) (fun b e cs' k => ?_),Nat.le_trans h.sx.lo C.size,h.sx.kb⟩,h.km,h.cc.trans C (fun b hb e=>by have e':b=x:=e; omega)⟩
 have e':b=x:=e
 subst e'
 exact ht (X.eq k).2
theorem At.op (h:At B w0 K0 w K g E W n N) (hs:Sx B w' K' g E' W' n' N') (hK:∀ b,K' b->K b\/w.heap.size<=b) (hc:Chg K w w'):At B w0 K0 w' K' g E' W' n' N' :=
 ⟨hs,fun b hb=>(hK b hb).elim (h.km b) (fun h2=>.inr (Nat.le_trans h.cc.size h2)),h.cc.trans hc (fun b hb hk=>(h.km b hk).elim id (fun h2=>by omega))⟩
theorem not_op {x:Nat} {cs:List Value} {t:TypeId} (X:Blk w x cs t) (hn:¬ K x) (hK:∀ b,K' b->K b\/w.heap.size<=b):¬ K' x:=fun h=>(hK x h).elim hn (fun h2=>by have:=X.lt; omega)
theorem At.new {x:Nat} (h:At B w0 K0 w K g E W n N) (hx:w.heap.size<=x):¬ K x:=fun hk=>by have:=h.lt hk; omega
theorem At.byu {v:Value} {l:List Int} (h:At B w0 K0 w K g E W n N) (hv:ByU w v l) (C:Chg K w w'):ByU w' v l:=hv.chg C h.sx.sa.kind
theorem Sx.bk {v:Value} {l:List Int} (h:Sx B w K g E W n N) (hv:ByU w v l):BK w K v l:=fun _ hc=>(hv.chg hc h.sa.kind).byt
theorem Sx.ends {r:Value} {P:Nat} {args:Array Value} (h:Sx B w K g E W n N) (u:Calls Tryz.prog P args w (Kv.Ends w K (B <= ·) g E' W' n' N' r)):Calls Tryz.prog P args w (SxE B w K g E' W' n' N' r):=by
 refine u.mono ?_
 rintro e w' ⟨rfl,K',hs,hK,hc⟩
 exact ⟨rfl,K',⟨hs.mono (fun b _ hb=>hb.elim id (Nat.le_trans h.lo)),Nat.le_trans h.lo hc.size,fun b hb=>(hK b hb).elim (h.kb b) (Nat.le_trans h.lo)⟩,hK,hc⟩
theorem xset {kv vv:Value} {k v:List Int} (h:Sx B w K g E W n N) (hk:ByU w kv k) (hv:ByU w vv v) (hn:n<=4000000000000000000) (hN:N + 2<=100000000) :
  Calls Tryz.prog 69 #[pg g,kv,vv] w (SxE B w K g (if setE k v=0 then put E k v else E) W (n + 1) (N + 2) (.int .i64 (setE k v))):=h.ends (sset h.sa (h.bk hk) (h.bk hv) hn hN)
theorem xdel {kv:Value} {k:List Int} (h:Sx B w K g E W n N) (hk:ByU w kv k) (hkl:k.length<=1000000000) (hn:n<=4000000000000000000) (hN:N + 2<=100000000) :
  Calls Tryz.prog 106 #[pg g,kv] w (SxE B w K g (rem E k) W (n + 1) (N + 2) (.bool (Kv.look E k).isSome)):=h.ends (sdel h.sa (h.bk hk) hkl hn hN)
end
def ak (id:Int):List Int:=Ky.mk 4 id 0
def pv (x y:Int):List Int:=Rc.thr (Rc.pnx (fun o=>([x,y]:List Int).getD o 0)) [(0,0),(0,1)] []
abbrev isA (id:Int):Prop:=(1<=id/\id<=4)\/16<=id
abbrev holdsP (x k:Int):Prop:=x<=1000000000000000000/\k<=1000000000000000000 - x
theorem ak_len (id:Int):0 < (ak id).length/\(ak id).length<=18:=by
 refine ⟨?_,Ky.mk_len _ _ _⟩
 unfold ak
 rw [Ky.mk_eq (k:=4) (n:=9) (m0:=97) (m1:=0) rfl]
 simp
theorem pv_len (x y:Int):(pv x y).length<=600:=by have:=Rc.pnx_len (fun o=>([x,y]:List Int).getD o 0) [(0,0),(0,1)] []; simpa [pv] using this
theorem set_ok (id x y:Int):setE (ak id) (pv x y)=0:=by
 have h1:=ak_len id
 have h2:=pv_len x y
 unfold setE
 rw [if_neg (by omega),if_neg (by omega)]
end Bk
end Go.Proofs.YtflenlpabmehoaaGreat
namespace Go.Proofs.YtflenlpabmehoaaGreat
namespace Bk
open Go.RowKit Go.Lib Pg Lim Gl Kv
attribute [local go_sem] Oper.semAt_some
set_option maxRecDepth 100000
set_option linter.unusedSimpArgs false
set_option linter.unusedVariables false
set_option maxHeartbeats 2000000
theorem aset {B:Nat} {w:World} {K:Nat->Prop} {g:Nat} {E:Ents} {W:List Ents} {n N:Nat} {kv vv:Value} {id x y:Int} (h:Sx B w K g E W n N) (hk:ByU w kv (ak id)) (hv:ByU w vv (pv x y)) (hn:n<=4000000000000000000) (hN:N + 2<=100000000) :
  Calls Tryz.prog 69 #[pg g,kv,vv] w (SxE B w K g (put E (ak id) (pv x y)) W (n + 1) (N + 2) (.int .i64 0)):=by
 have u:=xset h hk hv hn hN
 rw [set_ok,if_pos rfl] at u
 exact u
theorem SA.octv {w:World} {K D:Nat->Prop} {g n N:Nat} {E:Ents} {W:List Ents} (h:SA w K D g E W n N):∀ x∈E,Oct x.2:=by
 obtain ⟨F,V,m,Q,jv,T,oj,hX,rfl,hB⟩:=h.open
 obtain ⟨L,rfl,A,O,S,k,r⟩:=hX.map.ex
 intro x hx
 rw [abs_flat] at hx
 obtain ⟨e,he,rfl⟩:=List.mem_map.1 hx
 obtain ⟨es,h1,h2⟩:=List.mem_flatten.1 he
 obtain ⟨p,hp,rfl⟩:=List.mem_map.1 h1
 exact ((A.pages p hp).1.ents e h2).v.oct
theorem Sx.oct {B:Nat} {w:World} {K:Nat->Prop} {g:Nat} {E:Ents} {W:List Ents} {n N:Nat} (h:Sx B w K g E W n N) (k:List Int):Oct ((Kv.look E k).getD []):=by
 cases e:Kv.look E k with
 | none=>exact fun x hx=>by simp at hx
 | some v=>exact SA.octv h.sa _ (Kv.look_mem e)
end Bk
end Go.Proofs.YtflenlpabmehoaaGreat
namespace Go.Proofs.YtflenlpabmehoaaGreat
namespace Kv
open Go.RowKit Go.Lib Pg
attribute [local go_sem] Oper.semAt_some
structure IterG (Tp:TypeId->Prop) (X:Nat->Prop) (n0:Nat) (w:World) (g:Nat) (EL:List En) (v:Value):Prop where
 ex:∃ bs1 bs2 bw W1,v=.func (.func 204) #[] #[.pointer (some ⟨bs1,0,none⟩),.pointer (some ⟨bs2,0,none⟩)]/\Itr Tp 169 #[.pointer (some ⟨bw,0,none⟩)] EL.length (ArC EL) (fun V=>Chg X W1 V)/\RdC X W1 g bs1 bs2 bw w/\n0<=bs1/\n0<=bs2
 small:∀ e∈EL,e.kl.length<=1000000000/\e.vl.length<=1000000000
theorem xwmG {w:World} {K D F V:Nat->Prop} {g m:Nat} {Q:List (List KV)} {jv:Value} {T:List Jr} {oj:Option Nat} {n N:Nat} (h:SX w K D F V g m Q jv T oj n N) (hN:N<=100000000) {X:Nat->Prop} (hx:∀ b,X b->b=g\/¬ K b) (hU:∀ b,X b->∀ cs,¬ Blk w b cs 5) (hl:∀ b,X b->b < w.heap.size):∃ L,Wm w X F D m L/\∀ f t,(wlk (ens L) f t).map En.kl2=Q.flatten.filter (abtw f t) :=
 h.wm hN (fun b hb hF=>(hx b hb).elim (fun e=>by subst e; exact h.own.ntop hF) (fun n=>n (h.own.map b hF))) hU hl
theorem iterG_of {Tp : TypeId → Prop} {X : Nat → Prop} {n0 : Nat} {w w1 w2 : World} {F D : Nat → Prop} {g m bw : Nat} {jv : Value} {n : Int} {L : List Pg} {f t : List Int} (hg : Blk w g [.pointer (some ⟨m, 0, none⟩), jv, .int .i64 n] 101) (Km : Wm w X F D m L) (B1 : Below w.heap.size w w1) (IT : Itr Tp 169 #[.pointer (some ⟨bw, 0, none⟩)] (wlk (ens L) f t).length (ArC (wlk (ens L) f t)) (fun V => Chg X w1 V))
    (b1 : Blk w2 w1.heap.size [.pointer (some ⟨g, 0, none⟩)] 24) (b2 : Blk w2 (w1.heap.size + 1) [.func (.func 169) #[] #[.pointer (some ⟨bw, 0, none⟩)]] 118) (B2 : Below w1.heap.size w1 w2) (h0 : n0 ≤ w.heap.size) :
    IterG Tp X n0 w2 g (wlk (ens L) f t) (.func (.func 204) #[] #[.pointer (some ⟨w1.heap.size, 0, none⟩), .pointer (some ⟨w1.heap.size + 1, 0, none⟩)]) :=
  ⟨⟨_, _, bw, w1, rfl, IT, ⟨Chg.of B2, b1, b2, ⟨_, (hg.keep B1).keep B2⟩⟩, Nat.le_trans h0 B1.size, by have := B1.size; omega⟩, fun e he => by
    obtain ⟨es, h1, h2⟩ := wlk_mem he
    exact Km.small es h1 e h2⟩
set_option maxHeartbeats 4000000 in
set_option maxRecDepth 100000 in
theorem sprefixG {Tp:TypeId->Prop} {X:Nat->Prop} {w:World} {K D:Nat->Prop} {g n N:Nat} {E:Ents} {W:List Ents} {pv:Value} {p:List Int} (h:SA w K D g E W n N) (hN:N<=100000000) (hp:By w pv p) (hpl:p.length<=1000000) (hX1:∀ b,X b->b=g\/¬ K b) (hXU:∀ b,X b->∀ cs,¬ Blk w b cs 5) (hXl:∀ b,X b->b < w.heap.size) (hT:¬ Tp 116) (hTe:¬ Tp 248) :
  Calls Tryz.prog 102 #[.pointer (some ⟨g,0,none⟩),pv] w fun e w'=>∃ v EL,e=.returned v/\IterG Tp X w.heap.size w' g EL v/\EL.map En.kl2=E.filter (fun x=>decide (p <+: x.1))/\Below w.heap.size w w':=by
 have hOct:=h.oct
 have HXX:=hid3 (show (∀ b,X b->b=g\/¬ K b)/\(∀ b,X b->∀ cs,¬ Blk w b cs 5)/\(∀ b,X b->b < w.heap.size) from ⟨hX1,hXU,hXl⟩)
 have HTT:=hid3 (show ¬ Tp 116/\¬ Tp 248 from ⟨hT,hTe⟩)
 clear hX1 hXU hXl hT hTe
 obtain ⟨F,V,m,Q,jv,T,oj,hX,rfl,hB⟩:=h.open
 obtain ⟨pa,pc,rfl,-⟩:=id hp.ex
 have hbel:=next_any hp.drew (by omega)
 have hS:=hX.blk.drew
 have HX:=hid3 hX
 have HP:=hid3 hp
 have HO:=hid3 hOct
 have hpl2:=hid3 hpl
 have bD:Below w.heap.size w w.drew:=⟨rfl,rfl,rfl,Nat.le_refl _,fun _ _=>rfl⟩
 clear hX hp h hB hOct hpl
 obtain ⟨pn,hpn⟩:∃ pn,Hid (p.length=pn):=⟨_,rfl⟩
 rw [hpn.out] at HP hbel ⊢
 go_enter Tryz.func102,Tryz.ntmps102
 go_wp2_with fail
 refine rg_start (S:=fun w'=>Blk w' g [.pointer (some ⟨m,0,none⟩),jv,.int .i64 n] 101) (by kernel_rfl) hS ?_
 refine rg_take 0 (some 5) (.pointer (some ⟨g,0,none⟩)) (by kernel_rfl) (fun _ _=>by kernel_rfl) (fun _ _ _ h=>h) hS ?_
 refine rg_take 1 (some 6) (.pointer (some ⟨g,0,none⟩)) (by kernel_rfl) (fun _ _=>by kernel_rfl) (fun _ _ _ h=>h) hS ?_
 refine rg_take 2 (some 7) (.pointer (some ⟨g,0,none⟩)) (by kernel_rfl) (fun _ _=>by kernel_rfl) (fun _ _ _ h=>h) hS ?_
 refine rg_take 3 (some 8) (.pointer (some ⟨g,0,none⟩)) (by kernel_rfl) (fun _ _=>by kernel_rfl) (fun _ _ _ h=>h) hS ?_
 refine rg_load 4 (some 9) (.pointer (some ⟨m,0,none⟩)) 92 8 g 0 (by kernel_rfl) (by kernel_rfl) (by kernel_rfl) (fun w' h=>ld_mp (h.cell (i:=0) rfl)) (fun _ _ _ h=>h) hS ?_
 refine rg_take 5 (some 10) (.slice pa pn pc) (by kernel_rfl) (fun _ _=>by kernel_rfl) (fun _ _ _ h=>h) hS ?_
 refine rg_take 6 (some 11) (.slice pa pn pc) (by kernel_rfl) (fun _ _=>by kernel_rfl) (fun _ _ _ h=>h) hS ?_
 refine rg_call 7 (some 12) 158 #[.slice pa pn pc] (by kernel_rfl) (by kernel_rfl) hbel ?_
 rintro e' w1 ⟨nv,rfl,O1,B1⟩
 refine ⟨_,rfl,hS.keep B1,?_⟩
 have B1':=joinB bD B1
 replace hS:=hS.keep B1
 have X1:=HX.out.keep B1'
 obtain ⟨L,Km,hw⟩:=xwmG X1 hN HXX.out.1 (fun b hb cs k=>HXX.out.2.1 b hb cs ⟨by rw [<- B1'.block b (HXX.out.2.2 b hb)]; exact k.blk⟩) (fun b hb=>Nat.lt_of_lt_of_le (HXX.out.2.2 b hb) B1'.size)
 have hnl:(nxt p).length<=p.length:=by
  rcases last255 p with h1 | ⟨A,x,B,rfl,hx,hB⟩
  ·rw [nxt_all h1]; simp
  ·rw [nxt_eq hx hB]; simp
 have tW:=walk_any (Tp:=Tp) Km (HP.out.keep B1') O1.by (by have:=hpl2.out; omega) (by have:=hpl2.out; omega) HTT.out.1 HTT.out.2
 refine rg_call 8 (some 13) 61 #[.pointer (some ⟨m,0,none⟩),.slice pa pn pc,nv] (by kernel_rfl) (by kernel_rfl) tW ?_
 rintro e' w2 ⟨bw,rfl,B2,IT⟩
 refine ⟨_,rfl,hS.keep B2,?_⟩
 replace hS:=hS.keep B2
 refine rg_call 9 (some 14) 156 #[.pointer (some ⟨g,0,none⟩),.func (.func 169) #[] #[.pointer (some ⟨bw,0,none⟩)]] (by kernel_rfl) (by kernel_rfl) counted_mk ?_
 rintro e' w3 ⟨rfl,k1,k2,B3⟩
 refine ⟨_,rfl,hS.keep B3,?_⟩
 replace hS:=hS.keep B3
 refine rg_take 10 (some 4) (.func (.func 204) #[] #[.pointer (some ⟨w2.heap.size,0,none⟩),.pointer (some ⟨w2.heap.size + 1,0,none⟩)]) (by kernel_rfl) (fun _ _=>by kernel_rfl) (fun _ _ _ h=>h) hS ?_
 refine rg_done (by kernel_rfl) ?_
 simp only [Act.put,List.setIfInBounds_toArray,List.set_cons_zero,List.set_cons_succ]
 have FI:=hid3 (iterG_of X1.blk Km B2 IT k1 k2 B3 B1'.size)
 have HW:=hid3 (hw p (nxt p))
 have BB:=hid3 (joinB (joinB B1' B2) B3)
 clear hS X1 Km hw tW IT k1 k2 B3 B2 B1 B1' O1 bD
 go_wp2
 go_ret
 refine ⟨_,_,rfl,FI.out,?_,BB.out⟩
 rw [HW.out]
 exact List.filter_congr (fun x hx=>abtw_pre (HO.out x hx))
theorem SA.tick {w:World} {K D:Nat->Prop} {g n N:Nat} {E:Ents} {W:List Ents} (h:SA w K D g E W n N):SA (tick g w n) K D g E W (n + 1) N:=by
 obtain ⟨F,V,m,Q,jv,T,oj,hX,hE,hB⟩:=h.open
 exact (hX.top (chg_tick g n w) (hX.blk.setCell (i:=2) _)).shut hE hB
theorem SA.cnt {w:World} {K D:Nat->Prop} {g n N:Nat} {E:Ents} {W:List Ents} (h:SA w K D g E W n N):w.cell? ⟨g,2,none⟩=some (.int .i64 n)/\w.frozen? ⟨g,2,none⟩=false:=by
 obtain ⟨F,V,m,Q,jv,T,oj,hX,hE,hB⟩:=h.open
 exact ⟨hX.blk.cell (i:=2) rfl,hX.blk.free 2⟩
theorem SA.kv {w:World} {K D:Nat->Prop} {g n N:Nat} {E:Ents} {W:List Ents} (h:SA w K D g E W n N):∃ cs,Blk w g cs 101:=by
 obtain ⟨F,V,m,Q,jv,T,oj,hX,hE,hB⟩:=h.open
 exact ⟨_,hX.blk⟩
end Kv
end Go.Proofs.YtflenlpabmehoaaGreat
namespace Go.Proofs.YtflenlpabmehoaaGreat
namespace Bk
open Go.RowKit Go.Lib Pg Kv
attribute [local go_sem] Oper.semAt_some
def RdS (W0:World) (X K D:Nat->Prop) (g:Nat) (E:Ents) (Wn:List Ents) (N:Nat) (V:World):Prop:=Chg X W0 V/\(∀ b,X b->∀ cs,¬ Blk V b cs 5)/\∃ x,SA V K D g E Wn x N
def Ext (a:Nat) (w2 V:World):Prop:=(∀ b,a<=b->b < w2.heap.size->V.heap[b]? = w2.heap[b]?)/\w2.heap.size<=V.heap.size
theorem Ext.rcd {a:Nat} {w2 V V':World} (h:Ext a w2 V) (hr:Rec w2.heap.size V V'):Ext a w2 V' :=
 ⟨fun b h1 h2=>by
  have e:=h.1 b h1 h2
  have h3:w2.heap[b]? = some w2.heap[b]:=Array.getElem?_eq_getElem h2
  rw [h3] at e ⊢
  exact hr.same b _ e (.inl h2),Nat.le_trans h.2 hr.size⟩
theorem Ext.keep {a:Nat} {w2 V V':World} (h:Ext a w2 V) (hb:Below V.heap.size V V'):Ext a w2 V' :=
 ⟨fun b h1 h2=>(hb.block b (Nat.lt_of_lt_of_le h2 h.2)).trans (h.1 b h1 h2),Nat.le_trans h.2 hb.size⟩
theorem Ext.tick {a g x:Nat} {w2 V:World} (h:Ext a w2 V) (hg:g < a):Ext a w2 (tick g V x) :=
 ⟨fun b h1 h2=>(tick_other (by omega)).trans (h.1 b h1 h2),by rw [tick_size]; exact h.2⟩
theorem Ext.blk {a b:Nat} {w2 V:World} {cs:List Value} {t:TypeId} (h:Ext a w2 V) (k:Blk w2 b cs t) (hb:a<=b):Blk V b cs t:=k.same (h.1 b hb k.lt)
end Bk
end Go.Proofs.YtflenlpabmehoaaGreat
namespace Go.Proofs.YtflenlpabmehoaaGreat
namespace Kv
open Go.RowKit Go.Lib Pg Bk
attribute [local go_sem] Oper.semAt_some
structure ExtC (a:Nat) (R V:World):Prop where
 same:∀ b cs t m,a<=b->R.heap[b]? = some (.cells cs t m)->V.heap[b]? = some (.cells cs t m)
 size:R.heap.size<=V.heap.size
theorem ExtC.of {a:Nat} {R V:World} (h:Ext a R V):ExtC a R V:=⟨fun b _ _ _ h1 h2=>(h.1 b h1 (lt_of_block h2)).trans h2,h.2⟩
theorem ExtC.rcd {a B:Nat} {R V V':World} (h:ExtC a R V) (hr:Rec B V V'):ExtC a R V':=⟨fun b cs t m h1 h2=>hr.same b _ (h.same b cs t m h1 h2) (.inr rfl),Nat.le_trans h.size hr.size⟩
theorem ExtC.keep {a:Nat} {R V V':World} (h:ExtC a R V) (hb:Below V.heap.size V V'):ExtC a R V':=⟨fun b cs t m h1 h2=>(hb.block b (lt_of_block (h.same b cs t m h1 h2))).trans (h.same b cs t m h1 h2),Nat.le_trans h.size hb.size⟩
theorem ExtC.chg {a:Nat} {F:Nat->Prop} {R V V':World} (h:ExtC a R V) (hc:Chg F V V') (hF:∀ b,F b->b < a\/R.heap.size<=b):ExtC a R V':=⟨fun b cs t m h1 h2=>(hc.same b (lt_of_block (h.same b cs t m h1 h2)) (fun hf=>by have:=hF b hf; have:=lt_of_block h2; omega)).trans (h.same b cs t m h1 h2),Nat.le_trans h.size hc.size⟩
theorem ExtC.tick {a g x:Nat} {R V:World} (h:ExtC a R V) (hg:g < a):ExtC a R (tick g V x):=h.chg (chg_tick g x V) (fun b e=>.inl (by have e':b=g:=e; omega))
theorem Ext.mix {Tp:TypeId->Prop} {a:Nat} {R V V':World} (h:Ext a R V) (hk:KeepsT Tp a V V') (hc:ExtC a R V'):Ext a R V' :=
 ⟨fun b h1 h2=>by
  have e:=h.1 b h1 h2
  have h3:R.heap[b]? = some R.heap[b]:=Array.getElem?_eq_getElem h2
  cases ho:R.heap[b] with
  | cells cs t m=>rw [ho] at h3; rw [hc.same b cs t m h1 h3,h3]
  | _=>rw [ho] at h3; rw [h3] at e ⊢; exact hk.same b _ h1 e (fun _ _ _ h=>by cases h),hc.size⟩
def ItrE (W0:World) (Tp:TypeId->Prop) (g x0:Nat) (gf:Nat) (lb:Array Value) (N:Nat) (Ar:Nat->Array Value->Nat->World->Prop) (Rd:World->Prop):Prop :=
 ∀ (l:Nat) (J0:World->Prop) (J Jt Jx:World->Nat->World->Prop) (W:World),(∀ b,W0.heap.size<=b->∀ cs,¬ Blk W b cs 5)->W0.heap.size<=W.heap.size->St W.heap.size J0->(∀ R i,St W.heap.size (J R i))->(∀ R i,St W.heap.size (Jt R i))->(∀ R i,St W.heap.size (Jx R i))->g < W.heap.size ->
  (∀ V,J0 V->V.cell? ⟨g,2,none⟩=some (.int .i64 x0)/\V.frozen? ⟨g,2,none⟩=false/\Rd V/\∀ R,W.heap.size<=R.heap.size->ExtC W.heap.size R V->J R 0 (tick g V x0)) ->
  (∀ R i V,J R i V->V.cell? ⟨g,2,none⟩=some (.int .i64 ((x0 + 1 + i:Nat):Int))/\V.frozen? ⟨g,2,none⟩=false/\Rd V/\ExtC W.heap.size R V/\(i < N->Jt R i (tick g V (x0 + 1 + i)))) ->
  (∀ R i args V V',W.heap.size<=R.heap.size->i < N->Jt R i V->W.heap.size<=V.heap.size->Below V.heap.size V V'->Ar i args V.heap.size V'->YieldAt Fence.wide 0 Tryz.prog l args V' fun e V''=>KeepsT Tp W.heap.size V' V''/\((e=.returned (.bool true)/\J R (i + 1) V'')\/(e=.returned (.bool false)/\Jx R (i + 1) V''))) ->
  J0 W ->
  Calls Tryz.prog gf (#[.func (.yield l) #[] #[]] ++ lb) W fun e W'=>(∃ v,e=.returned v)/\W.heap.size<=W'.heap.size/\∃ R:World,W.heap.size<=R.heap.size/\(J R N W'\/∃ i,i < N/\Jx R (i + 1) W')
theorem rf_outerE {Tp : TypeId → Prop} {gf N n g0 x0 : Nat} {lb : Array Value} {Ar : Nat → Array Value → Nat → World → Prop} {Rd : World → Prop} {w : World} (IT : ItrE w Tp g0 x0 gf lb N Ar Rd) {g : Operand} {ps : Array Tmp} {assign body : Code} {Q : Exit → Act → World → Prop} {a : Act}
    (hg : a.eval g = .func (.func gf) #[] lb) (eg : ∀ args w, (callFunc gf args).run Tryz.prog w = .ok (.enter gf args) w) (hArS : ∀ i args n V W, Ar i args n V → Cel V W → Ar i args n W) (hAn : ∀ i args n V, Ar i args n V → args.size = ps.size)
    (I0 : World → Prop) (I It : World → Nat → World → Prop) (Ix : World → Code → Nat → World → Prop) (hI0 : St w.heap.size I0) (hI : ∀ R i, St w.heap.size (I R i)) (hIt : ∀ R i, St w.heap.size (It R i)) (hIx : ∀ R c i, St w.heap.size (Ix R c i)) (hgw : g0 < w.heap.size)
    (hx0 : ∀ V, I0 V → V.cell? ⟨g0, 2, none⟩ = some (.int .i64 x0) ∧ V.frozen? ⟨g0, 2, none⟩ = false ∧ Rd V ∧ ∀ R, w.heap.size + 2 ≤ R.heap.size → ExtC (w.heap.size + 2) R V → I R 0 (tick g0 V x0))
    (hx : ∀ R i V, I R i V → V.cell? ⟨g0, 2, none⟩ = some (.int .i64 ((x0 + 1 + i : Nat) : Int)) ∧ V.frozen? ⟨g0, 2, none⟩ = false ∧ Rd V ∧ ExtC (w.heap.size + 2) R V ∧ (i < N → It R i (tick g0 V (x0 + 1 + i)))) (h0 : I0 w)
    (hround : ∀ R, w.heap.size + 2 ≤ R.heap.size → RoundC Tp w N n ps assign body a.tmps Ar (It R) (I R) (Ix R))
    (hdone : ∀ R D W, w.heap.size + 2 ≤ R.heap.size → w.heap.size ≤ D → W.heap[D]? = some (.deferred (some [])) → I R N W → Q .normal { a with defers := { target := .collected D, args := #[] } :: a.defers } W)
    (hstop : ∀ R D c i W, w.heap.size + 2 ≤ R.heap.size → w.heap.size ≤ D → W.heap[D]? = some (.deferred (some [])) → i < N → Ix R c (i + 1) W → c.wpIn Fence.wide n Tryz.prog Q { a with defers := { target := .collected D, args := #[] } :: a.defers } W) :
    (Code.rangeFunc g ps assign body).wpIn Fence.wide n Tryz.prog Q a w := by
  refine wpIn_rangeFunc ?_
  intro fn _
  obtain ⟨W1, hW1⟩ : ∃ W1, (w.alloc (.deferred (some []))).alloc (.loop (recd fn a.tmps ps assign body w.heap.size .ready none)) = W1 := ⟨_, rfl⟩
  have hB1 : Below w.heap.size w W1 := by rw [← hW1]; exact joinB (below_alloc w _) (below_alloc _ _)
  have hs1 : W1.heap.size = w.heap.size + 1 + 1 := by rw [← hW1]; simp
  have hL1 : W1.heap[w.heap.size + 1]? = some (.loop (recd fn a.tmps ps assign body w.heap.size .ready none)) := by
    rw [← hW1]; have := World.alloc_heap_new (w.alloc (.deferred (some []))) (.loop (recd fn a.tmps ps assign body w.heap.size .ready none)); rwa [World.size_alloc] at this
  have hK1 : W1.heap[w.heap.size]? = some (.deferred (some [])) := by
    rw [← hW1]; exact (Below.heap_alloc _ _ _ (by simp)).trans (World.alloc_heap_new w _)
  have t1 : ∀ V x, (tick g0 V x).heap[w.heap.size + 1]? = V.heap[w.heap.size + 1]? := fun V x => tick_other (by omega)
  have t2 : ∀ V x, (tick g0 V x).heap[w.heap.size]? = V.heap[w.heap.size]? := fun V x => tick_other (by omega)
  have hNB : ∀ b, w.heap.size ≤ b → ∀ cs, ¬ Blk W1 b cs 5 := fun b hb cs k => by
    have hlt := k.lt
    have hk := k.blk
    rcases Nat.lt_or_ge w.heap.size b with h1 | h1
    · obtain rfl : b = w.heap.size + 1 := by omega
      rw [hL1] at hk
      cases hk
    · obtain rfl : b = w.heap.size := by omega
      rw [hK1] at hk
      cases hk
  refine ⟨w.heap.size + 1, [{ target := .collected w.heap.size, args := #[] }], W1, { target := .fn (.func gf) lb, args := #[.func (.yield (w.heap.size + 1)) #[] #[]] }, W1, gf,
    #[.func (.yield (w.heap.size + 1)) #[] #[]] ++ lb, W1, ?_, ?_, ?_, ?_, fun h => (by cases h), ?_⟩
  · rw [← hW1]; exact run_enterLoop_outer _ _ _ _ _
  · simp only [resolve, hg]
    simp [go_sem]
  · intro f' _; trivial
  · simp [invoke, go_sem, eg]
  · refine callsIn_wide.2 ?_
    refine (IT (w.heap.size + 1)
      (fun W => I0 W ∧ W.heap[w.heap.size + 1]? = some (.loop (recd fn a.tmps ps assign body w.heap.size .ready none)) ∧ W.heap[w.heap.size]? = some (.deferred (some [])))
      (fun R i W => I R i W ∧ W.heap[w.heap.size + 1]? = some (.loop (recd fn a.tmps ps assign body w.heap.size .ready none)) ∧ W.heap[w.heap.size]? = some (.deferred (some [])))
      (fun R i W => It R i W ∧ W.heap[w.heap.size + 1]? = some (.loop (recd fn a.tmps ps assign body w.heap.size .ready none)) ∧ W.heap[w.heap.size]? = some (.deferred (some [])))
      (fun R i W => ∃ c, Ix R c i W ∧ W.heap[w.heap.size + 1]? = some (.loop (recd fn a.tmps ps assign body w.heap.size .done (some c))) ∧ W.heap[w.heap.size]? = some (.deferred (some [])))
      W1 hNB (by omega) (fun X Y hx hr => ⟨hI0 X Y hx.1 (hr.mono (by omega)), hr.same _ _ hx.2.1 (.inl (by omega)), hr.same _ _ hx.2.2 (.inl (by omega))⟩)
      (fun R i X Y hx hr => ⟨hI R i X Y hx.1 (hr.mono (by omega)), hr.same _ _ hx.2.1 (.inl (by omega)), hr.same _ _ hx.2.2 (.inl (by omega))⟩)
      (fun R i X Y hx hr => ⟨hIt R i X Y hx.1 (hr.mono (by omega)), hr.same _ _ hx.2.1 (.inl (by omega)), hr.same _ _ hx.2.2 (.inl (by omega))⟩)
      (fun R i X Y hx hr => by obtain ⟨c, h1, h2, h3⟩ := hx; exact ⟨c, hIx R c i X Y h1 (hr.mono (by omega)), hr.same _ _ h2 (.inl (by omega)), hr.same _ _ h3 (.inl (by omega))⟩)
      (by omega)
      (fun V hv => by obtain ⟨q1, q2, q3, q4⟩ := hx0 V hv.1; exact ⟨q1, q2, q3, fun R hR hE => ⟨q4 R (by omega) (hs1 ▸ hE), (t1 V x0).trans hv.2.1, (t2 V x0).trans hv.2.2⟩⟩)
      (fun R i V hv => by obtain ⟨q1, q2, q3, q5, q4⟩ := hx R i V hv.1; exact ⟨q1, q2, q3, hs1 ▸ q5, fun hi => ⟨q4 hi, (t1 V _).trans hv.2.1, (t2 V _).trans hv.2.2⟩⟩)
      ?_ ⟨hI0 _ _ h0 (Rec.of hB1), hL1, hK1⟩).mono ?_
    · rintro R i args V V' hRs hiN ⟨hi, hl, hk⟩ hsz hb ha
      have hr := hround R (by omega) _ i args V V' (by omega) (lt_of_block hl) ⟨_, hl⟩ hiN hi hb ha
      refine (yield_core (Tp := Tp) (B := w.heap.size) (i := 2 * i + 1) (I := zip2 (I R) (It R)) (Ix := fun c k => Ix R c (k / 2)) (Ar := fun k => Ar (k / 2)) (fun j => hArS (j / 2)) (fun j => by unfold zip2; split; exact hI R _; exact hIt R _) (fun c j => hIx R c _) (by omega) hl (by rw [zip2_odd]; exact hi) hb (by rw [show (2 * i + 1) / 2 = i by omega]; exact ha) (hAn _ _ _ _ ha) (wpIn_mono hr ?_)).mono ?_
      · intro e a1 W1 h
        cases e <;> first
          | (refine ⟨h.1, fun V2 W2 q1 q2 q3 q4 q5 q6 q7 => ?_⟩
             rw [zip2_odd] at q1
             rw [show (2 * i + 1) / 2 = i by omega] at q3
             exact wpIn_mono (h.2 V2 W2 q1 q2 q3 q4 q5 q6 q7) (fun e a W h => bpost_zip h))
          | exact h.elim
      · rintro e V'' ⟨hkp, h⟩
        have hk2 := hkp.same _ _ (Nat.le_refl _) (by omega) ((hb.block _ (lt_of_block hk)).trans hk) safe_def
        refine ⟨hkp.from (by omega) (by omega), h.imp (fun h => ⟨h.1, by have := h.2.1; rw [zip2_even] at this; exact this, h.2.2, hk2⟩) (fun h => ?_)⟩
        obtain ⟨h1, c, h2, h3⟩ := h
        rw [show (2 * i + 1 + 1) / 2 = i + 1 by omega] at h2
        exact ⟨h1, c, h2, h3, hk2⟩
    · rintro e W2 ⟨⟨v, rfl⟩, hsz, R, hRs, ⟨hi, hl, hk⟩ | ⟨i, hiN, c, hi, hl, hk⟩⟩
      · exact ⟨none, _, run_endLoop (P := Tryz.prog) hl (by simp [recd]), hdone R _ _ (by omega) (Nat.le_refl _) ((World.putObj_heap_other (by omega)).trans hk) (hI R _ _ _ hi (Rec.put hl rfl (by omega) _))⟩
      · exact ⟨some c, _, run_endLoop (P := Tryz.prog) hl (by simp [recd]), hstop R _ c i _ (by omega) (Nat.le_refl _) ((World.putObj_heap_other (by omega)).trans hk) hiN (hIx R c _ _ _ hi (Rec.put hl rfl (by omega) _))⟩
end Kv
end Go.Proofs.YtflenlpabmehoaaGreat
