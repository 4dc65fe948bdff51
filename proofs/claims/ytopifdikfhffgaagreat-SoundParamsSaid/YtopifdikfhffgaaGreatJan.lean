/- Several texts, joined: BkA, BkB, BkC, BkD, PwR, KyMk, PwA, PwB. -/
import Derived.Test.YtopifdikfhffgaaGreatJae
import Derived.Test.YtopifdikfhffgaaGreatJaf
import Derived.Test.YtopifdikfhffgaaGreatJah
import Derived.Test.YtopifdikfhffgaaGreatJam
import Derived.Test.YtopifdikfhffgaaGreatJal
set_option maxRecDepth 100000
set_option maxHeartbeats 8000000
namespace Go.Proofs.YtopifdikfhffgaaGreat
section
namespace Bk
open Go.RowKit Go.Lib Pg Lim Gl Kv
structure Sx (B:Nat) (w:World) (K:Nat->Prop) (g:Nat) (E:Ents) (W:List Ents) (n N:Nat):Prop where
 sa:SA w K (B <= ·) g E W n N
 lo:B<=w.heap.size
 kb:∀ b,K b->B<=b
structure SxE (B:Nat) (w:World) (K:Nat->Prop) (g:Nat) (E:Ents) (W:List Ents) (n N:Nat) (r:Value) (e:Ending) (w':World):Prop where
 ret:e=.returned r
 ex:∃ K',Sx B w' K' g E W n N/\(∀ b,K' b->K b\/w.heap.size<=b)/\Chg K w w'
structure At (B:Nat) (w0:World) (K0:Nat->Prop) (w:World) (K:Nat->Prop) (g:Nat) (E:Ents) (W:List Ents) (n N:Nat):Prop where
 sx:Sx B w K g E W n N
 km:∀ b,K b->K0 b\/w0.heap.size<=b
 cc:Chg K0 w0 w
section
variable {B:Nat} {w0 w w':World} {K0 K K':Nat->Prop} {g:Nat} {E E':Ents} {W W':List Ents} {n N n' N':Nat}
theorem Sx.at (h:Sx B w K g E W n N):At B w K w K g E W n N:=⟨h,fun _ h=>.inl h,Chg.refl _ _⟩
theorem Sx.keep (h:Sx B w K g E W n N) (b:Below w.heap.size w w'):Sx B w' K g E W n N:=⟨h.sa.keep b,Nat.le_trans h.lo b.size,h.kb⟩
theorem At.keep (h:At B w0 K0 w K g E W n N) (b:Below w.heap.size w w'):At B w0 K0 w' K g E W n N:=⟨h.sx.keep b,h.km,h.cc.trans (Chg.of (F:=fun _=>False) b) (fun _ _ h=>h.elim)⟩
theorem At.drew (h:At B w0 K0 w K g E W n N):At B w0 K0 w.drew K g E W n N:=h.keep (Below.refl _ _).drew
theorem At.lt (h:At B w0 K0 w K g E W n N) {b:Nat} (hb:K b):b < w.heap.size:=h.sx.sa.lt hb
theorem At.size (h:At B w0 K0 w K g E W n N):w0.heap.size<=w.heap.size:=h.cc.size
theorem At.cell {x:Nat} {cs:List Value} {t:TypeId} (h:At B w0 K0 w K g E W n N) (X:Blk w x cs t) (C:Chg (· = x) w w') (hx:w0.heap.size<=x) (hk:¬ K x) (ht:t≠5):At B w0 K0 w' K g E W n N:=by
 refine ⟨⟨h.sx.sa.chg C (fun b e hb=>hk ((show b=x from e)▸hb)) (fun b e cs' k => ?_),Nat.le_trans h.sx.lo C.size,h.sx.kb⟩,h.km,h.cc.trans C (fun b hb e=>by have e':b=x:=e; omega)⟩
 have e':b=x:=e
 subst e'
 exact ht (X.eq k).2
theorem At.op (h:At B w0 K0 w K g E W n N) (hs:Sx B w' K' g E' W' n' N') (hK:∀ b,K' b->K b\/w.heap.size<=b) (hc:Chg K w w'):At B w0 K0 w' K' g E' W' n' N' :=
 ⟨hs,fun b hb=>(hK b hb).elim (h.km b) (fun h2=>.inr (Nat.le_trans h.cc.size h2)),h.cc.trans hc (fun b hb hk=>(h.km b hk).elim id (fun h2=>by omega))⟩
theorem not_op {x:Nat} {cs:List Value} {t:TypeId} (X:Blk w x cs t) (hn:¬ K x) (hK:∀ b,K' b->K b\/w.heap.size<=b):¬ K' x:=fun h=>(hK x h).elim hn (fun h2=>by have:=X.lt; omega)
theorem opX {x:Nat} {cs:List Value} {t:TypeId} (X:Blk w x cs t) (hn:¬ K x) (hK:∀ b,K' b->K b\/w.heap.size<=b) (C:Chg K w w'):Blk w' x cs t/\¬ K' x:=⟨X.chg C hn,not_op X hn hK⟩
theorem bk_op {w w':World} {K K':Nat->Prop} {x:Nat} {cs:List Value} {t:TypeId} (X:Blk w x cs t) (hn:¬ K x) (hK:∀ b,K' b->K b\/w.heap.size<=b) (hC:Chg K w w'):Blk w' x cs t/\¬ K' x:=⟨X.chg hC hn,not_op X hn hK⟩
theorem At.new {x:Nat} (h:At B w0 K0 w K g E W n N) (hx:w.heap.size<=x):¬ K x:=fun hk=>by have:=h.lt hk; omega
theorem At.al {B:Nat} {w0 w w':World} {K0 K:Nat->Prop} {g:Nat} {E:Ents} {W:List Ents} {n N x:Nat} (h:At B w0 K0 w K g E W n N) (hx:w.heap.size<=x) (b:Below w.heap.size w w'):w0.heap.size<=x/\¬ K x/\At B w0 K0 w' K g E W n N:=⟨Nat.le_trans h.size hx,h.new hx,h.keep b⟩
theorem At.byu {v:Value} {l:List Int} (h:At B w0 K0 w K g E W n N) (hv:ByU w v l) (C:Chg K w w'):ByU w' v l:=hv.chg C h.sx.sa.kind
theorem byu_keep {v:Value} {l:List Int} (h:ByU w v l) (b:Below w.heap.size w w'):ByU w' v l:=h.chg (K:=fun _=>False) (Chg.of b) (fun _ h=>h.elim)
theorem byu_cell {x:Nat} {cs:List Value} {t:TypeId} {v:Value} {l:List Int} (h:ByU w v l) (X:Blk w x cs t) (C:Chg (· = x) w w') (ht:t≠5):ByU w' v l:=h.chg C (fun b e=>⟨cs,t,by have e':b=x:=e; subst e'; exact X,ht⟩)
theorem Sx.bk {v:Value} {l:List Int} (h:Sx B w K g E W n N) (hv:ByU w v l):BK w K v l:=fun _ hc=>(hv.chg hc h.sa.kind).byt
theorem Sx.ends {r:Value} {P:Nat} {args:Array Value} (h:Sx B w K g E W n N) (u:Calls Tryz.prog P args w (Kv.Ends w K (B <= ·) g E' W' n' N' r)):Calls Tryz.prog P args w (SxE B w K g E' W' n' N' r):=by
 refine u.mono ?_
 rintro e w' ⟨rfl,K',hs,hK,hc⟩
 exact ⟨rfl,K',⟨hs.mono (fun b _ hb=>hb.elim id (Nat.le_trans h.lo)),Nat.le_trans h.lo hc.size,fun b hb=>(hK b hb).elim (h.kb b) (Nat.le_trans h.lo)⟩,hK,hc⟩
theorem xset {kv vv:Value} {k v:List Int} (h:Sx B w K g E W n N) (hk:ByU w kv k) (hv:ByU w vv v) (hn:n<=4000000000000000000) (hN:N + 2<=100000000) :
  Calls Tryz.prog 11 #[pg g,kv,vv] w (SxE B w K g (if setE k v=0 then put E k v else E) W (n + 1) (N + 2) (.int .i64 (setE k v))):=h.ends (sset h.sa (h.bk hk) (h.bk hv) hn hN)
structure GetE (B:Nat) (w:World) (K:Nat->Prop) (g:Nat) (E:Ents) (W:List Ents) (n N:Nat) (k:List Int) (e:Ending) (w':World):Prop where
 ex:∃ v,e=.returned (.tuple #[v,.bool (Kv.look E k).isSome])/\ByU w' v ((Kv.look E k).getD [])/\Sx B w' K g E W n N/\Chg K w w'
theorem xget {kv:Value} {k:List Int} (h:Sx B w K g E W n N) (hk:ByU w kv k) (hn:n<=4000000000000000000) (hN:N<=100000000) :
  Calls Tryz.prog 187 #[pg g,kv] w (GetE B w K g E W (n + 1) N k):=by
 refine (sget h.sa (h.bk hk) hn hN).mono ?_
 rintro e w' ⟨v,rfl,O,S,C⟩
 exact ⟨v,rfl,ByU.of O,⟨S,Nat.le_trans h.lo C.size,h.kb⟩,C⟩
end
theorem bya {w:World} {v:Value} {l:List Int} (h:By w v l):∃ b ao c,v=.slice ao l.length c/\ByA w b ao l.length c l:=by
 obtain ⟨ao,c,e,h1,h2,h3,h4,h5⟩:=h.ex
 rcases h5 with rfl | ⟨b,o,rfl,_,h6⟩
 ·exact ⟨0,ao,c,e,0,rfl,h1,⟨h2,h3⟩,h4,.inl rfl,fun i hi=>absurd hi (by simp)⟩
 ·exact ⟨b,_,c,e,o,rfl,h1,⟨h2,h3⟩,h4,.inr rfl,fun i hi=>h6 i _ (by rw [nth_eq hi]; exact List.getElem?_eq_getElem hi)⟩
theorem byu_box {w:World} {b n:Nat} {l:List Int} (h:Box w b (l.map (Value.int .u8)) 5) (ho:Oct l) (hn:n=l.length) (hl:l.length<=1000000):ByU w (.slice (some ⟨b,0,none⟩) n n) l:=by
 subst hn
 refine ⟨⟨_,_,rfl,Nat.le_refl _,by omega,fun e=>by simp at e,ho,.inr ⟨b,0,rfl,h.lt,fun i x hi => ?_⟩⟩,fun b' o n' c e => ?_⟩
 ·rw [Nat.zero_add]
  have e:=h.blk
  simp [World.cell?,e,hi]
 ·simp only [Value.slice.injEq,Option.some.injEq,Addr.mk.injEq] at e
  obtain ⟨⟨rfl,_⟩,_⟩:=e
  exact ⟨_,_,h.blk⟩
def ak (id:Int):List Int:=Ky.mk 4 id 0
def pv (x y:Int):List Int:=Rc.thr (Rc.pnx (fun o=>([x,y]:List Int).getD o 0)) [(0,0),(0,1)] []
def coinB (l:List Int):Int:=Rc.outX (Rc.stAccount l) 0
def seqB (l:List Int):Int:=Rc.outX (Rc.stAccount l) 1
def coin (E:Ents) (id:Int):Int:=coinB ((Kv.look E (ak id)).getD [])
def seqn (E:Ents) (id:Int):Int:=seqB ((Kv.look E (ak id)).getD [])
abbrev isA (id:Int):Prop:=(1<=id/\id<=4)\/16<=id
abbrev holdsP (x k:Int):Prop:=x<=1000000000000000000/\k<=1000000000000000000 - x
theorem pv_len (x y:Int):(pv x y).length<=600:=by have:=Rc.pnx_len (fun o=>([x,y]:List Int).getD o 0) [(0,0),(0,1)] []; simpa [pv] using this
theorem pv_oct (x y:Int):Oct (pv x y):=Rc.thr_oct _ _ _ (fun _ h=>by simp at h)
theorem pv_back {x y:Int} (hx:0<=x/\x < 18446744073709551616) (hy:0<=y/\y < 18446744073709551616):coinB (pv x y)=x/\seqB (pv x y)=y:=by
 obtain ⟨ys,h1,h2⟩:=Rc.thr_back (fun o=>([x,y]:List Int).getD o 0) [(0,0),(0,1)] [] (fun _=>0) (by decide) (by
  intro p hp
  simp only [List.mem_cons,List.not_mem_nil,or_false] at hp
  rcases hp with rfl | rfl
  ·exact hx
  ·exact hy)
 rw [List.append_nil] at h1
 have e:Rc.stAccount (pv x y)=(0,[],ys):=h1
 unfold coinB seqB
 rw [e]
 have f:Rc.outX (0,[],ys)=ys:=rfl
 rw [f]
 have a:=h2.1 (0,0) (by simp)
 have b:=h2.1 (0,1) (by simp)
 exact ⟨a,b⟩
end Bk
end
section
namespace Bk
open Go.RowKit Go.Lib Pg Lim Gl Kv
attribute [local go_sem] Oper.semAt_some
set_option linter.unusedSimpArgs false
set_option linter.unusedVariables false
theorem ake (id:Int):(if Ky.mkE 4 id 0 then [] else Ky.mk 4 id 0)=ak id:=by
 have e:Ky.mkE 4 id 0=false:=by
  unfold Ky.mkE
  rw [show (Ky.frm 4).1=9 from rfl]
  simp
 rw [e]
 rfl
theorem key_any {w:World} {id:Int} (hid:0<=id/\id < 18446744073709551616):Calls Tryz.prog 190 #[.int .u64 id] w fun e w'=>∃ v,e=.returned v/\ByU w' v (ak id)/\Below w.heap.size w w':=by
 have BB:=Below.refl w.heap.size w
 refine gc_enter (n:=12) Tryz.func190 rfl ?_
 refine gc_seq (gc_reg (t 2 (.slice none 0 0) (gl_nil (ge_then (gc_seq (gc_reg (t 6 (iU id) (t 7 (.agg #[iI 4,iU id,iU 0]) (tc 8 10 #[.agg #[iI 4,iU id,iU 0]] (Ky.make_any hid.1 hid.2) ?_)))))))))
 rintro _ v1 ⟨kv0,rfl,U0,B⟩
 refine ⟨_,rfl,?_⟩
 replace BB:=joinB BB B
 refine t 5 (.tuple #[kv0,iI (if Ky.mkE 4 id 0 then 70 else 0)]) (t 9 (kv0) (t 10 (iI (if Ky.mkE 4 id 0 then 70 else 0)) (t 3 (kv0) (t 4 (iI (if Ky.mkE 4 id 0 then 70 else 0)) (gl_nil (ge_then (gc_seq (gc_reg (t 11 (kv0) (t 2 (kv0) (gl_nil (ge_then (gc_fr [(2,kv0)] (gc_ret (ge_ret (kv0) (rs1 2 (by kernel_rfl) (by kernel_rfl)) ?_)))))))))))))))
 exact ⟨_,rfl,by rw [ake id] at U0; exact ByU.of U0,BB⟩
theorem acct_any {w:World} {v:Value} {l:List Int} (h:ByU w v l) (hl:l.length<=1000000000):Calls Tryz.prog 76 #[v] w fun e w'=>e=.returned (.tuple #[.agg #[.int .u64 (coinB l),.int .u64 (seqB l)],.int .i64 (Rc.outR (Rc.stAccount l))])/\Below w.heap.size w w':=by
 obtain ⟨b,ao,c,rfl,h2⟩:=bya h.byt
 exact Rc.oAccount h2 hl
theorem put_acct {w:World} {x y:Int}:Calls Tryz.prog 12 #[.agg #[.int .u64 x,.int .u64 y]] w fun e w'=>∃ v,e=.returned v/\ByU w' v (pv x y)/\Below w.heap.size w w':=by
 refine Rc.PutAccount_any.mono ?_
 rintro e w' ⟨b,n,rfl,hn,X,hb,B⟩
 exact ⟨_,rfl,byu_box X (pv_oct x y) hn (Nat.le_trans (pv_len x y) (by decide)),B⟩
theorem Sx.getlen {B:Nat} {w:World} {K:Nat->Prop} {g:Nat} {E:Ents} {W:List Ents} {n N:Nat} (h:Sx B w K g E W n N) (k:List Int):((Kv.look E k).getD []).length<=1000000000:=by
 cases e:Kv.look E k with
 | none=>simp
 | some v=>exact (h.sa.small _ (Kv.look_mem e)).2
theorem rd8_rng {l:List Int} {err:Int} (ho:Octets l):0<=rdV 0 (pFix 8 l) err/\rdV 0 (pFix 8 l) err < 18446744073709551616:=by
 unfold rdV pFix
 split
 ·split
  ·exact ⟨Int.le_refl _,by decide⟩
  ·rename_i hh
   split at hh
   ·cases hh
    have:=bval_bound (l:=l.take 8) (fun x hx=>ho x (List.mem_of_mem_take hx))
    rw [List.length_take,Nat.min_eq_left (by assumption)] at this
    exact this
   ·cases hh
 ·exact ⟨Int.le_refl _,by decide⟩
theorem coinB_rng {l:List Int} (ho:Oct l):(0<=coinB l/\coinB l < 18446744073709551616)/\(0<=seqB l/\seqB l < 18446744073709551616):=by
 have h1:Octets (rdL (pFix 8 l) 0 l):=by
  unfold rdL
  split
  ·split
   ·exact ho
   ·exact fun x hx=>ho x (List.mem_of_mem_drop hx)
  ·exact ho
 have e:Rc.stAccount l=Rc.rnx 0 1 (Rc.rnx 0 0 (0,l,fun _=>0)):=rfl
 unfold coinB seqB Rc.outX
 rw [e]
 split
 ·exact ⟨rd8_rng (err:=0) ho,rd8_rng h1⟩
 ·exact ⟨⟨Int.le_refl _,by decide⟩,Int.le_refl _,by decide⟩
theorem SA.octv {w:World} {K D:Nat->Prop} {g n N:Nat} {E:Ents} {W:List Ents} (h:SA w K D g E W n N):∀ x∈E,Oct x.2:=by
 obtain ⟨F,V,m,Q,jv,T,oj,hX,rfl,hB⟩:=h.open
 obtain ⟨L,rfl,A,O,S,k,r⟩:=hX.map.ex
 intro x hx
 rw [abs_flat] at hx
 obtain ⟨e,he,rfl⟩:=List.mem_map.1 hx
 obtain ⟨es,h1,h2⟩:=List.mem_flatten.1 he
 obtain ⟨p,hp,rfl⟩:=List.mem_map.1 h1
 exact ((A.pages p hp).1.ents e h2).v.oct
theorem get_any {B:Nat} {w:World} {K:Nat->Prop} {g:Nat} {E:Ents} {W:List Ents} {n N:Nat} {id:Int} (h:Sx B w K g E W n N) (hid:0<=id/\id < 18446744073709551616) (hn:n + 5<=4000000000000000000) (hN:N + 5<=100000000):Calls Tryz.prog 104 #[pg g,.int .u64 id] w (SxE B w K g E W (n + 1) N (.agg #[.int .u64 (coin E id),.int .u64 (seqn E id)])):=by
 have A:=h.at
 refine gc_enter (n:=22) Tryz.func104 rfl ?_
 refine gc_seq (gc_reg (ta 4 [iU 0,iU 0] 39 (pg) ?_))
 intro v1 g2 Xg2 hg2 B
 obtain ⟨zg2,nXg2,A⟩:=A.al hg2 B
 refine gl_nil (ge_then (gc_seq (gc_reg (t 10 (pg g) (t 11 (iU id) (tc 12 190 #[iU id] (key_any hid) ?_))))))
 rintro _ v5 ⟨kv4,rfl,U3,B⟩
 refine ⟨_,rfl,?_⟩
 replace A:=A.keep B
 replace Xg2:=Xg2.keep B
 refine tc 13 187 #[pg g,kv4] (xget A.sx U3 (by omega) (by omega)) ?_
 rintro _ v8 ⟨gv6,rfl,U7,S,hC⟩
 refine ⟨_,rfl,?_⟩
 replace Xg2:=Xg2.chg hC nXg2
 replace U3:=A.byu U3 hC
 replace A:=A.op S (fun _ h=>.inl h) hC
 clear U3
 refine t 9 (.tuple #[gv6,.bool (Kv.look E (ak id)).isSome]) (t 14 (gv6) (t 15 (.bool (Kv.look E (ak id)).isSome) (t 5 (gv6) (t 6 (.bool (Kv.look E (ak id)).isSome) (gl_nil (ge_then (gc_fr [(4,pg g2),(5,gv6)] (gc_seq (gc_reg (t 17 (gv6) (tc 18 76 #[gv6] (acct_any U7 (A.sx.getlen _)) ?_)))))))))))
 rintro _ v9 ⟨rfl,B⟩
 refine ⟨_,rfl,?_⟩
 replace A:=A.keep B
 replace Xg2:=Xg2.keep B
 replace U7:=byu_keep U7 B
 clear U7
 refine t 16 (.tuple #[.agg #[iU (coinB ((Kv.look E (ak id)).getD [])),iU (seqB ((Kv.look E (ak id)).getD []))],iI (Rc.outR (Rc.stAccount ((Kv.look E (ak id)).getD [])))]) (t 19 (.agg #[iU (coinB ((Kv.look E (ak id)).getD [])),iU (seqB ((Kv.look E (ak id)).getD []))]) (t 20 (iI (Rc.outR (Rc.stAccount ((Kv.look E (ak id)).getD [])))) ?_))
 have lXg2:=Xg2.lt
 refine ta 7 [iU 0,iU 0] 39 (pg) ?_
 intro v10 g11 Xg11 hg11 B
 obtain ⟨zg11,nXg11,A⟩:=A.al hg11 B
 replace Xg2:=Xg2.keep B
 refine ts Xg11 0 (.agg #[iU (coinB ((Kv.look E (ak id)).getD [])),iU (seqB ((Kv.look E (ak id)).getD []))]) [iU (coinB ((Kv.look E (ak id)).getD [])),iU (seqB ((Kv.look E (ak id)).getD []))] [iU (coinB ((Kv.look E (ak id)).getD [])),iU (seqB ((Kv.look E (ak id)).getD []))] ?_
 intro v12 Y C
 replace A:=At.cell A Xg11 C zg11 nXg11 (by decide)
 replace Xg2:=Xg2.chg C (show g2≠g11 by omega)
 have Xg11:=Y
 refine t 8 (iI (Rc.outR (Rc.stAccount ((Kv.look E (ak id)).getD [])))) (gl_nil (ge_then (gc_seq (gc_reg (tlr 21 [iU (coinB ((Kv.look E (ak id)).getD [])),iU (seqB ((Kv.look E (ak id)).getD []))] Xg11 0 (ts Xg2 0 (.agg #[iU (coinB ((Kv.look E (ak id)).getD [])),iU (seqB ((Kv.look E (ak id)).getD []))]) [iU (coinB ((Kv.look E (ak id)).getD [])),iU (seqB ((Kv.look E (ak id)).getD []))] [iU (coinB ((Kv.look E (ak id)).getD [])),iU (seqB ((Kv.look E (ak id)).getD []))] ?_))))))
 intro v13 Y C
 replace A:=At.cell A Xg2 C zg2 nXg2 (by decide)
 replace Xg11:=Xg11.chg C (show g11≠g2 by omega)
 have Xg2:=Y
 refine gl_nil (ge_then (gc_ret (ge_ret (.agg #[iU (coinB ((Kv.look E (ak id)).getD [])),iU (seqB ((Kv.look E (ak id)).getD []))]) (rsc 4 (T:=39) (by kernel_rfl) (by kernel_rfl) (lr Xg2 0)) ?_)))
 exact ⟨rfl,_,A.sx,A.km,A.cc⟩
end Bk
end
section
open Pg (rg_n rg_load rg_call rg_start)
namespace Kv
open Go.RowKit Go.Lib Pg
attribute [local go_sem] Oper.semAt_some
structure IterG (Tp:TypeId->Prop) (X:Nat->Prop) (n0:Nat) (w:World) (g:Nat) (EL:List En) (v:Value):Prop where
 ex:∃ bs1 bs2 bw W1,v=.func (.func 227) #[] #[.pointer (some ⟨bs1,0,none⟩),.pointer (some ⟨bs2,0,none⟩)]/\Itr Tp 306 #[.pointer (some ⟨bw,0,none⟩)] EL.length (ArC EL) (fun V=>Chg X W1 V)/\RdC X W1 g bs1 bs2 bw w/\n0<=bs1/\n0<=bs2
 small:∀ e∈EL,e.kl.length<=1000000000/\e.vl.length<=1000000000
theorem xwmG {w:World} {K D F V:Nat->Prop} {g m:Nat} {Q:List (List KV)} {jv:Value} {T:List Jr} {oj:Option Nat} {n N:Nat} (h:SX w K D F V g m Q jv T oj n N) (hN:N<=100000000) {X:Nat->Prop} (hx:∀ b,X b->b=g\/¬ K b) (hU:∀ b,X b->∀ cs,¬ Blk w b cs 5) (hl:∀ b,X b->b < w.heap.size):∃ L,Wm w X F D m L/\∀ f t,(wlk (ens L) f t).map En.kl2=Q.flatten.filter (abtw f t) :=
 h.wm hN (fun b hb hF=>(hx b hb).elim (fun e=>by subst e; exact h.own.ntop hF) (fun n=>n (h.own.map b hF))) hU hl
theorem iterG_of {Tp : TypeId → Prop} {X : Nat → Prop} {n0 : Nat} {w w1 w2 : World} {F D : Nat → Prop} {g m bw : Nat} {jv : Value} {n : Int} {L : List Pg} {f t : List Int} (hg : Blk w g [.pointer (some ⟨m, 0, none⟩), jv, .int .i64 n] 57) (Km : Wm w X F D m L) (B1 : Below w.heap.size w w1) (IT : Itr Tp 306 #[.pointer (some ⟨bw, 0, none⟩)] (wlk (ens L) f t).length (ArC (wlk (ens L) f t)) (fun V => Chg X w1 V))
    (b1 : Blk w2 w1.heap.size [.pointer (some ⟨g, 0, none⟩)] 27) (b2 : Blk w2 (w1.heap.size + 1) [.func (.func 306) #[] #[.pointer (some ⟨bw, 0, none⟩)]] 121) (B2 : Below w1.heap.size w1 w2) (h0 : n0 ≤ w.heap.size) :
    IterG Tp X n0 w2 g (wlk (ens L) f t) (.func (.func 227) #[] #[.pointer (some ⟨w1.heap.size, 0, none⟩), .pointer (some ⟨w1.heap.size + 1, 0, none⟩)]) :=
  ⟨⟨_, _, bw, w1, rfl, IT, ⟨Chg.of B2, b1, b2, ⟨_, (hg.keep B1).keep B2⟩⟩, Nat.le_trans h0 B1.size, by have := B1.size; omega⟩, fun e he => by
    obtain ⟨es, h1, h2⟩ := wlk_mem he
    exact Km.small es h1 e h2⟩
theorem sprefixG {Tp:TypeId->Prop} {X:Nat->Prop} {w:World} {K D:Nat->Prop} {g n N:Nat} {E:Ents} {W:List Ents} {pv:Value} {p:List Int} (h:SA w K D g E W n N) (hN:N<=100000000) (hp:By w pv p) (hpl:p.length<=1000000) (hX1:∀ b,X b->b=g\/¬ K b) (hXU:∀ b,X b->∀ cs,¬ Blk w b cs 5) (hXl:∀ b,X b->b < w.heap.size) (hT:¬ Tp 66) (hTe:¬ Tp 86) :
  Calls Tryz.prog 165 #[.pointer (some ⟨g,0,none⟩),pv] w fun e w'=>∃ v EL,e=.returned v/\IterG Tp X w.heap.size w' g EL v/\EL.map En.kl2=E.filter (fun x=>decide (p <+: x.1))/\Below w.heap.size w w':=by
 have hOct:=h.oct
 have HXX:=hid3 (show (∀ b,X b->b=g\/¬ K b)/\(∀ b,X b->∀ cs,¬ Blk w b cs 5)/\(∀ b,X b->b < w.heap.size) from ⟨hX1,hXU,hXl⟩)
 have HTT:=hid3 (show ¬ Tp 66/\¬ Tp 86 from ⟨hT,hTe⟩)
 clear hX1 hXU hXl hT hTe
 obtain ⟨F,V,m,Q,jv,T,oj,hX,rfl,hB⟩:=h.open
 obtain ⟨pa,pc,rfl,-⟩:=id hp.ex
 have hbel:=next_any hp.drew (by omega)
 have hS:=hX.blk.drew
 have HX:=hid3 hX
 have HP:=hid3 hp
 have HO:=hid3 hOct
 have hpl2:=hid3 hpl
 have bD:Below w.heap.size w w.drew:=⟨rfl,rfl,rfl,Nat.le_refl _,fun _ _=>rfl⟩
 clear hX hp h hB hOct hpl
 obtain ⟨pn,hpn⟩:∃ pn,Hid (p.length=pn):=⟨_,rfl⟩
 rw [hpn.out] at HP hbel ⊢
 go_enter Tryz.func165,Tryz.ntmps165
 go_wp2_with fail
 refine rg_start (S:=fun w'=>Blk w' g [.pointer (some ⟨m,0,none⟩),jv,.int .i64 n] 57) (by kernel_rfl) hS ?_
 refine rg_n 0 5 (.pointer (some ⟨g,0,none⟩)) (by kernel_rfl) (fun _ _=>by kernel_rfl) i3 hS ?_
 refine rg_n 1 6 (.pointer (some ⟨g,0,none⟩)) (by kernel_rfl) (fun _ _=>by kernel_rfl) i3 hS ?_
 refine rg_n 2 7 (.pointer (some ⟨g,0,none⟩)) (by kernel_rfl) (fun _ _=>by kernel_rfl) i3 hS ?_
 refine rg_n 3 8 (.pointer (some ⟨g,0,none⟩)) (by kernel_rfl) (fun _ _=>by kernel_rfl) i3 hS ?_
 refine rg_load 4 (some 9) (.pointer (some ⟨m,0,none⟩)) 48 8 g 0 (by kernel_rfl) (by kernel_rfl) (by kernel_rfl) (fun w' h=>ld_mp (h.cell (i:=0) rfl)) i3 hS ?_
 refine rg_n 5 10 (.slice pa pn pc) (by kernel_rfl) (fun _ _=>by kernel_rfl) i3 hS ?_
 refine rg_n 6 11 (.slice pa pn pc) (by kernel_rfl) (fun _ _=>by kernel_rfl) i3 hS ?_
 refine rg_call 7 (some 12) 248 #[.slice pa pn pc] (by kernel_rfl) (by kernel_rfl) hbel ?_
 rintro e' w1 ⟨nv,rfl,O1,B1⟩
 refine ⟨_,rfl,hS.keep B1,?_⟩
 have B1':=joinB bD B1
 replace hS:=hS.keep B1
 have X1:=HX.out.keep B1'
 obtain ⟨L,Km,hw⟩:=xwmG X1 hN HXX.out.1 (fun b hb cs k=>HXX.out.2.1 b hb cs ⟨by rw [<- B1'.block b (HXX.out.2.2 b hb)]; exact k.blk⟩) (fun b hb=>Nat.lt_of_lt_of_le (HXX.out.2.2 b hb) B1'.size)
 have hnl:(nxt p).length<=p.length:=by
  rcases last255 p with h1 | ⟨A,x,B,rfl,hx,hB⟩
  ·rw [nxt_all h1]; simp
  ·rw [nxt_eq hx hB]; simp
 have tW:=walk_any (Tp:=Tp) Km (HP.out.keep B1') O1.by (by have:=hpl2.out; omega) (by have:=hpl2.out; omega) HTT.out.1 HTT.out.2
 refine rg_call 8 (some 13) 144 #[.pointer (some ⟨m,0,none⟩),.slice pa pn pc,nv] (by kernel_rfl) (by kernel_rfl) tW ?_
 rintro e' w2 ⟨bw,rfl,B2,IT⟩
 refine ⟨_,rfl,hS.keep B2,?_⟩
 replace hS:=hS.keep B2
 refine rg_call 9 (some 14) 143 #[.pointer (some ⟨g,0,none⟩),.func (.func 306) #[] #[.pointer (some ⟨bw,0,none⟩)]] (by kernel_rfl) (by kernel_rfl) counted_mk ?_
 rintro e' w3 ⟨rfl,k1,k2,B3⟩
 refine ⟨_,rfl,hS.keep B3,?_⟩
 replace hS:=hS.keep B3
 refine rg_n 10 4 (.func (.func 227) #[] #[.pointer (some ⟨w2.heap.size,0,none⟩),.pointer (some ⟨w2.heap.size + 1,0,none⟩)]) (by kernel_rfl) (fun _ _=>by kernel_rfl) i3 hS ?_
 refine rg_done (by kernel_rfl) ?_
 simp only [Act.put,List.setIfInBounds_toArray,List.set_cons_zero,List.set_cons_succ]
 have FI:=hid3 (iterG_of X1.blk Km B2 IT k1 k2 B3 B1'.size)
 have HW:=hid3 (hw p (nxt p))
 have BB:=hid3 (joinB (joinB B1' B2) B3)
 clear hS X1 Km hw tW IT k1 k2 B3 B2 B1 B1' O1 bD
 go_wp2
 go_ret
 refine ⟨_,_,rfl,FI.out,?_,BB.out⟩
 rw [HW.out]
 exact List.filter_congr (fun x hx=>abtw_pre (HO.out x hx))
theorem SA.tick {w:World} {K D:Nat->Prop} {g n N:Nat} {E:Ents} {W:List Ents} (h:SA w K D g E W n N):SA (tick g w n) K D g E W (n + 1) N:=by
 obtain ⟨F,V,m,Q,jv,T,oj,hX,hE,hB⟩:=h.open
 exact (hX.top (chg_tick g n w) (hX.blk.setCell (i:=2) _)).shut hE hB
theorem SA.cnt {w:World} {K D:Nat->Prop} {g n N:Nat} {E:Ents} {W:List Ents} (h:SA w K D g E W n N):w.cell? ⟨g,2,none⟩=some (.int .i64 n)/\w.frozen? ⟨g,2,none⟩=false:=by
 obtain ⟨F,V,m,Q,jv,T,oj,hX,hE,hB⟩:=h.open
 exact ⟨hX.blk.cell (i:=2) rfl,hX.blk.free 2⟩
theorem SA.kv {w:World} {K D:Nat->Prop} {g n N:Nat} {E:Ents} {W:List Ents} (h:SA w K D g E W n N):∃ cs,Blk w g cs 57:=by
 obtain ⟨F,V,m,Q,jv,T,oj,hX,hE,hB⟩:=h.open
 exact ⟨_,hX.blk⟩
def ItrD (W0:World) (Tp:TypeId->Prop) (g x0:Nat) (gf:Nat) (lb:Array Value) (N:Nat) (Ar:Nat->Array Value->Nat->World->Prop) (Rd:World->Prop):Prop :=
 ∀ (l:Nat) (J0:World->Prop) (J Jt Jx:Nat->World->Prop) (W:World),(∀ b,W0.heap.size<=b->∀ cs,¬ Blk W b cs 5)->W0.heap.size<=W.heap.size->St W.heap.size J0->(∀ i,St W.heap.size (J i))->(∀ i,St W.heap.size (Jt i))->(∀ i,St W.heap.size (Jx i))->g < W.heap.size ->
  (∀ V,J0 V->V.cell? ⟨g,2,none⟩=some (.int .i64 x0)/\V.frozen? ⟨g,2,none⟩=false/\Rd V/\J 0 (tick g V x0)) ->
  (∀ i V,J i V->V.cell? ⟨g,2,none⟩=some (.int .i64 ((x0 + 1 + i:Nat):Int))/\V.frozen? ⟨g,2,none⟩=false/\Rd V/\(i < N->Jt i (tick g V (x0 + 1 + i)))) ->
  (∀ i args V V',i < N->Jt i V->W.heap.size<=V.heap.size->Below V.heap.size V V'->Ar i args V.heap.size V'->YieldAt Fence.wide 0 Tryz.prog l args V' fun e V''=>KeepsT Tp W.heap.size V' V''/\((e=.returned (.bool true)/\J (i + 1) V'')\/(e=.returned (.bool false)/\Jx (i + 1) V''))) ->
  J0 W ->
  Calls Tryz.prog gf (#[.func (.yield l) #[] #[]] ++ lb) W fun e W'=>(∃ v,e=.returned v)/\W.heap.size<=W'.heap.size/\(J N W'\/∃ i,i < N/\Jx (i + 1) W')
theorem rf_outerD {Tp : TypeId → Prop} {gf N n g0 x0 : Nat} {lb : Array Value} {Ar : Nat → Array Value → Nat → World → Prop} {Rd : World → Prop} {w : World} (IT : ItrD w Tp g0 x0 gf lb N Ar Rd) {g : Operand} {ps : Array Tmp} {assign body : Code} {Q : Exit → Act → World → Prop} {a : Act}
    (hg : a.eval g = .func (.func gf) #[] lb) (eg : ∀ args w, (callFunc gf args).run Tryz.prog w = .ok (.enter gf args) w) (hArS : ∀ i args n V W, Ar i args n V → Cel V W → Ar i args n W) (hAn : ∀ i args n V, Ar i args n V → args.size = ps.size)
    (I0 : World → Prop) (I It : Nat → World → Prop) (Ix : Code → Nat → World → Prop) (hI0 : St w.heap.size I0) (hI : ∀ i, St w.heap.size (I i)) (hIt : ∀ i, St w.heap.size (It i)) (hIx : ∀ c i, St w.heap.size (Ix c i)) (hgw : g0 < w.heap.size)
    (hx0 : ∀ V, I0 V → V.cell? ⟨g0, 2, none⟩ = some (.int .i64 x0) ∧ V.frozen? ⟨g0, 2, none⟩ = false ∧ Rd V ∧ I 0 (tick g0 V x0))
    (hx : ∀ i V, I i V → V.cell? ⟨g0, 2, none⟩ = some (.int .i64 ((x0 + 1 + i : Nat) : Int)) ∧ V.frozen? ⟨g0, 2, none⟩ = false ∧ Rd V ∧ (i < N → It i (tick g0 V (x0 + 1 + i)))) (h0 : I0 w)
    (hround : RoundC Tp w N n ps assign body a.tmps Ar It I Ix)
    (hdone : ∀ D W, w.heap.size ≤ D → W.heap[D]? = some (.deferred (some [])) → I N W → Q .normal { a with defers := { target := .collected D, args := #[] } :: a.defers } W)
    (hstop : ∀ D c i W, w.heap.size ≤ D → W.heap[D]? = some (.deferred (some [])) → i < N → Ix c (i + 1) W → c.wpIn Fence.wide n Tryz.prog Q { a with defers := { target := .collected D, args := #[] } :: a.defers } W) :
    (Code.rangeFunc g ps assign body).wpIn Fence.wide n Tryz.prog Q a w := by
  refine wpIn_rangeFunc ?_
  intro fn _
  obtain ⟨W1, hW1⟩ : ∃ W1, (w.alloc (.deferred (some []))).alloc (.loop (recd fn a.tmps ps assign body w.heap.size .ready none)) = W1 := ⟨_, rfl⟩
  have hB1 : Below w.heap.size w W1 := by rw [← hW1]; exact joinB (below_alloc w _) (below_alloc _ _)
  have hs1 : W1.heap.size = w.heap.size + 1 + 1 := by rw [← hW1]; simp
  have hL1 : W1.heap[w.heap.size + 1]? = some (.loop (recd fn a.tmps ps assign body w.heap.size .ready none)) := by
    rw [← hW1]; have := World.alloc_heap_new (w.alloc (.deferred (some []))) (.loop (recd fn a.tmps ps assign body w.heap.size .ready none)); rwa [World.size_alloc] at this
  have hK1 : W1.heap[w.heap.size]? = some (.deferred (some [])) := by
    rw [← hW1]; exact (Below.heap_alloc _ _ _ (by simp)).trans (World.alloc_heap_new w _)
  have t1 : ∀ V x, (tick g0 V x).heap[w.heap.size + 1]? = V.heap[w.heap.size + 1]? := fun V x => tick_other (by omega)
  have t2 : ∀ V x, (tick g0 V x).heap[w.heap.size]? = V.heap[w.heap.size]? := fun V x => tick_other (by omega)
  have hNB : ∀ b, w.heap.size ≤ b → ∀ cs, ¬ Blk W1 b cs 5 := fun b hb cs k => by
    have hlt := k.lt
    have hk := k.blk
    rcases Nat.lt_or_ge w.heap.size b with h1 | h1
    · obtain rfl : b = w.heap.size + 1 := by omega
      rw [hL1] at hk
      cases hk
    · obtain rfl : b = w.heap.size := by omega
      rw [hK1] at hk
      cases hk
  refine ⟨w.heap.size + 1, [{ target := .collected w.heap.size, args := #[] }], W1, { target := .fn (.func gf) lb, args := #[.func (.yield (w.heap.size + 1)) #[] #[]] }, W1, gf,
    #[.func (.yield (w.heap.size + 1)) #[] #[]] ++ lb, W1, ?_, ?_, ?_, ?_, fun h => (by cases h), ?_⟩
  · rw [← hW1]; exact run_enterLoop_outer _ _ _ _ _
  · simp only [resolve, hg]
    simp [go_sem]
  · intro f' _; trivial
  · simp [invoke, go_sem, eg]
  · refine callsIn_wide.2 ?_
    refine (IT (w.heap.size + 1)
      (fun W => I0 W ∧ W.heap[w.heap.size + 1]? = some (.loop (recd fn a.tmps ps assign body w.heap.size .ready none)) ∧ W.heap[w.heap.size]? = some (.deferred (some [])))
      (fun i W => I i W ∧ W.heap[w.heap.size + 1]? = some (.loop (recd fn a.tmps ps assign body w.heap.size .ready none)) ∧ W.heap[w.heap.size]? = some (.deferred (some [])))
      (fun i W => It i W ∧ W.heap[w.heap.size + 1]? = some (.loop (recd fn a.tmps ps assign body w.heap.size .ready none)) ∧ W.heap[w.heap.size]? = some (.deferred (some [])))
      (fun i W => ∃ c, Ix c i W ∧ W.heap[w.heap.size + 1]? = some (.loop (recd fn a.tmps ps assign body w.heap.size .done (some c))) ∧ W.heap[w.heap.size]? = some (.deferred (some [])))
      W1 hNB (by omega) (fun X Y hx hr => ⟨hI0 X Y hx.1 (hr.mono (by omega)), hr.same _ _ hx.2.1 (.inl (by omega)), hr.same _ _ hx.2.2 (.inl (by omega))⟩)
      (fun i X Y hx hr => ⟨hI i X Y hx.1 (hr.mono (by omega)), hr.same _ _ hx.2.1 (.inl (by omega)), hr.same _ _ hx.2.2 (.inl (by omega))⟩)
      (fun i X Y hx hr => ⟨hIt i X Y hx.1 (hr.mono (by omega)), hr.same _ _ hx.2.1 (.inl (by omega)), hr.same _ _ hx.2.2 (.inl (by omega))⟩)
      (fun i X Y hx hr => by obtain ⟨c, h1, h2, h3⟩ := hx; exact ⟨c, hIx c i X Y h1 (hr.mono (by omega)), hr.same _ _ h2 (.inl (by omega)), hr.same _ _ h3 (.inl (by omega))⟩)
      (by omega)
      (fun V hv => by obtain ⟨q1, q2, q3, q4⟩ := hx0 V hv.1; exact ⟨q1, q2, q3, q4, (t1 V x0).trans hv.2.1, (t2 V x0).trans hv.2.2⟩)
      (fun i V hv => by obtain ⟨q1, q2, q3, q4⟩ := hx i V hv.1; exact ⟨q1, q2, q3, fun hi => ⟨q4 hi, (t1 V _).trans hv.2.1, (t2 V _).trans hv.2.2⟩⟩)
      ?_ ⟨hI0 _ _ h0 (Rec.of hB1), hL1, hK1⟩).mono ?_
    · rintro i args V V' hiN ⟨hi, hl, hk⟩ hsz hb ha
      have hr := hround _ i args V V' (by omega) (lt_of_block hl) ⟨_, hl⟩ hiN hi hb ha
      refine (yield_core (Tp := Tp) (B := w.heap.size) (i := 2 * i + 1) (I := zip2 I It) (Ix := fun c k => Ix c (k / 2)) (Ar := fun k => Ar (k / 2)) (fun j => hArS (j / 2)) (fun j => by unfold zip2; split; exact hI _; exact hIt _) (fun c j => hIx c _) (by omega) hl (by rw [zip2_odd]; exact hi) hb (by rw [show (2 * i + 1) / 2 = i by omega]; exact ha) (hAn _ _ _ _ ha) (wpIn_mono hr ?_)).mono ?_
      · intro e a1 W1 h
        cases e <;> first
          | (refine ⟨h.1, fun V2 W2 q1 q2 q3 q4 q5 q6 q7 => ?_⟩
             rw [zip2_odd] at q1
             rw [show (2 * i + 1) / 2 = i by omega] at q3
             exact wpIn_mono (h.2 V2 W2 q1 q2 q3 q4 q5 q6 q7) (fun e a W h => bpost_zip h))
          | exact h.elim
      · rintro e V'' ⟨hkp, h⟩
        have hk2 := hkp.same _ _ (Nat.le_refl _) (by omega) ((hb.block _ (lt_of_block hk)).trans hk) safe_def
        refine ⟨hkp.from (by omega) (by omega), h.imp (fun h => ⟨h.1, by have := h.2.1; rw [zip2_even] at this; exact this, h.2.2, hk2⟩) (fun h => ?_)⟩
        obtain ⟨h1, c, h2, h3⟩ := h
        rw [show (2 * i + 1 + 1) / 2 = i + 1 by omega] at h2
        exact ⟨h1, c, h2, h3, hk2⟩
    · rintro e W2 ⟨⟨v, rfl⟩, hsz, ⟨hi, hl, hk⟩ | ⟨i, hiN, c, hi, hl, hk⟩⟩
      · exact ⟨none, _, run_endLoop (P := Tryz.prog) hl (by simp [recd]), hdone _ _ (Nat.le_refl _) ((World.putObj_heap_other (by omega)).trans hk) (hI _ _ _ hi (Rec.put hl rfl (by omega) _))⟩
      · exact ⟨some c, _, run_endLoop (P := Tryz.prog) hl (by simp [recd]), hstop _ c i _ (Nat.le_refl _) ((World.putObj_heap_other (by omega)).trans hk) hiN (hIx c _ _ _ hi (Rec.put hl rfl (by omega) _))⟩
end Kv
end
section
namespace Bk
open Go.RowKit Go.Lib Pg Kv
attribute [local go_sem] Oper.semAt_some
def TpN (_:TypeId):Prop:=False
def accs (E:Ents):List Int:=(E.filter (fun x=>decide ([97] <+: x.1))).map (fun x=>coinB x.2)
def ArS (cs:List Int) (i:Nat) (args:Array Value) (_:Nat) (_:World):Prop:=∃ c,cs[i]? = some c/\args=#[.int .u64 c]
def RdS (W0:World) (X K D:Nat->Prop) (g:Nat) (E:Ents) (Wn:List Ents) (N:Nat) (V:World):Prop:=Chg X W0 V/\(∀ b,X b->∀ cs,¬ Blk V b cs 5)/\∃ x,SA V K D g E Wn x N
def Ext (a:Nat) (w2 V:World):Prop:=(∀ b,a<=b->b < w2.heap.size->V.heap[b]? = w2.heap[b]?)/\w2.heap.size<=V.heap.size
theorem Ext.rcd {a:Nat} {w2 V V':World} (h:Ext a w2 V) (hr:Rec w2.heap.size V V'):Ext a w2 V' :=
 ⟨fun b h1 h2=>by
  have e:=h.1 b h1 h2
  have h3:w2.heap[b]? = some w2.heap[b]:=Array.getElem?_eq_getElem h2
  rw [h3] at e ⊢
  exact hr.same b _ e (.inl h2),Nat.le_trans h.2 hr.size⟩
theorem Ext.keep {a:Nat} {w2 V V':World} (h:Ext a w2 V) (hb:Below V.heap.size V V'):Ext a w2 V' :=
 ⟨fun b h1 h2=>(hb.block b (Nat.lt_of_lt_of_le h2 h.2)).trans (h.1 b h1 h2),Nat.le_trans h.2 hb.size⟩
theorem Ext.tick {a g x:Nat} {w2 V:World} (h:Ext a w2 V) (hg:g < a):Ext a w2 (tick g V x) :=
 ⟨fun b h1 h2=>(tick_other (by omega)).trans (h.1 b h1 h2),by rw [tick_size]; exact h.2⟩
theorem Ext.keepsT {a:Nat} {w2 V V':World} (h:Ext a w2 V) (hk:KeepsT TpN a V V'):Ext a w2 V' :=
 ⟨fun b h1 h2=>by
  have e:=h.1 b h1 h2
  have h3:w2.heap[b]? = some w2.heap[b]:=Array.getElem?_eq_getElem h2
  rw [h3] at e ⊢
  exact hk.same b _ h1 e (fun _ _ _ _ h=>h),Nat.le_trans h.2 hk.size⟩
theorem Ext.blk {a b:Nat} {w2 V:World} {cs:List Value} {t:TypeId} (h:Ext a w2 V) (k:Blk w2 b cs t) (hb:a<=b):Blk V b cs t:=k.same (h.1 b hb k.lt)
theorem of4 {w:World}:Calls Tryz.prog 163 #[.int .i64 4] w fun e w'=>∃ v,e=.returned (.tuple #[v,.int .i64 0])/\OB w' (w.heap.size <= ·) v [97]/\Below w.heap.size w w':=Ky.of_any (k:=4)
theorem coins_itr {W0 : World} {K D X : Nat → Prop} {g bs x0 N : Nat} {E : Ents} {Wn : List Ents} (hS : SA W0 K D g E Wn x0 N) (hbs : Blk W0 bs [.pointer (some ⟨g, 0, none⟩)] 27) (hXb : ¬ X bs) (hX1 : ∀ b, X b → b = g ∨ ¬ K b) (hXl : ∀ b, X b → b < W0.heap.size) (hN : N ≤ 100000000) (hx : x0 + N ≤ 2000000000000000000) :
    ItrD W0 TpN g x0 242 #[.pointer (some ⟨bs, 0, none⟩)] (accs E).length (ArS (accs E)) (RdS W0 X K D g E Wn N) := by
  intro l J0 J Jt Jx W hNB hW0 hS0 hSJ hSt hSx hgW hJ0 hJ hY h0
  obtain ⟨_, _, ⟨c0, u0, xx, s0⟩, _⟩ := hJ0 _ h0
  have B1 := below_alloc W (.cells #[.func (.yield l) #[] #[]] 40)
  have Y1 := blk_new W [.func (.yield l) #[] #[]] 40
  have s1 : (W.alloc (.cells #[.func (.yield l) #[] #[]] 40)).heap.size = W.heap.size + 1 := by simp
  obtain ⟨Wa, hWa⟩ : ∃ Wa, Hid (W.alloc (.cells #[.func (.yield l) #[] #[]] 40) = Wa) := ⟨_, rfl⟩
  rw [hWa.out] at B1 Y1 s1
  have bsW := hbs.chg c0 hXb
  have hK0 : ∀ b, K b → b < W0.heap.size := fun b hb => hS.lt hb
  have HX' : Hid (∀ b, (X b ∨ (W0.heap.size ≤ b ∧ b < W.heap.size)) → b = g ∨ ¬ K b) := hid3 (fun b hb => hb.elim (hX1 b) (fun h => .inr (fun hk => by have := hK0 b hk; omega)))
  have HXl : Hid (∀ b, (X b ∨ (W0.heap.size ≤ b ∧ b < W.heap.size)) → b < W.heap.size) := hid3 (fun b hb => hb.elim (fun h => Nat.lt_of_lt_of_le (hXl b h) hW0) (fun h => h.2))
  have HXU : Hid (∀ b, (X b ∨ (W0.heap.size ≤ b ∧ b < W.heap.size)) → ∀ cs, ¬ Blk W b cs 5) := hid3 (fun b hb => hb.elim (u0 b) (fun h => hNB b h.1))
  have HY := hid3 hY
  have HJ := hid3 hJ
  have HJ0 := hid3 hJ0
  have H0 := hid3 h0
  have HS := hid3 s0
  have HC0 := hid3 c0
  have HB1 := hid3 B1
  have HY1 := hid3 Y1
  have HBS := hid3 bsW
  clear hJ0 hJ hY h0 s0 c0 B1 Y1 bsW hNB u0
  refine (callsIn_wide (n := 0)).1 ?_
  refine callsIn_of_wp_marks Tryz.func242 rfl trivial ?_ rfl
  simp only [Tryz.ntmps242, List.size_toArray, List.length_cons, List.length_nil, Nat.reduceAdd, Nat.reduceSub, Array.replicate_succ, Array.replicate_zero, List.push_toArray, List.append_toArray, List.nil_append, List.cons_append]
  gi_wp2_with first
    | (refine ⟨trivial, rfl, ?_⟩; gi_at_call 163; rw [hWa.out]; refine (callsIn_wide.2 of4).mono ?_; rintro e' w1 ⟨v1, rfl, O1, B2⟩; have cB := (HBS.out.keep (joinB HB1.out B2)).cell (i := 0) rfl; have tP := sprefixG (Tp := TpN) (X := fun b => X b ∨ (W0.heap.size ≤ b ∧ b < W.heap.size)) (HS.out.keep (joinB HB1.out B2)) hN O1.by (by decide) HX'.out (fun b hb cs k => HXU.out b hb cs ⟨by rw [← (joinB HB1.out B2).block b (HXl.out b hb)]; exact k.blk⟩) (fun b hb => Nat.lt_of_lt_of_le (HXl.out b hb) (joinB HB1.out B2).size) (fun h => h) (fun h => h); obtain ⟨pa, pc, rfl⟩ := O1.shape)
    | (refine ⟨trivial, rfl, ?_⟩; gi_at_call 165; refine (callsIn_wide.2 tP).mono ?_; rintro e' w2 ⟨v2, EL, rfl, IG, hEL, B3⟩; obtain ⟨bs1, bs2, bw, W1, rfl, IT, hRd, hb1, hb2⟩ := IG.ex; have hsm := IG.small; clear tP IG)
  have BW := joinB (joinB HB1.out B2) B3
  have hw1 : W.heap.size + 1 ≤ w1.heap.size := by have := B2.size; omega
  have hw2 : W.heap.size + 1 ≤ w2.heap.size := Nat.le_trans hw1 B3.size
  have YB := (HY1.out.keep B2).keep B3
  have hlen : (accs E).length = EL.length := by simp [accs, ← hEL]
  have hle : EL.length ≤ N := by
    have h1 := HS.out.size
    have h2 : (EL.map En.kl2).length ≤ E.length := by rw [hEL]; exact List.length_filter_le _ _
    rw [List.length_map] at h2
    omega
  have ITC := counted_itr (g := g) (bs1 := bs1) (bs2 := bs2) (x0 := x0) IT (fun h => h) (by omega)
  have J2 := hS0 _ _ H0.out (Rec.of BW)
  have E2 : Ext W.heap.size w2 w2 := ⟨fun _ _ _ => rfl, Nat.le_refl _⟩
  have RDC : Hid (∀ V, RdS W0 X K D g E Wn N V → Ext W.heap.size w2 V → RdC (fun b => X b ∨ (W0.heap.size ≤ b ∧ b < W.heap.size)) W1 g bs1 bs2 bw V) := hid3 (fun V hR hE => by
    obtain ⟨c1, _, x, s1⟩ := hR
    obtain ⟨r1, r2, r3, _⟩ := hRd
    refine ⟨⟨?_, ?_, ?_, Nat.le_trans r1.size hE.2, fun b hb hn => ?_⟩, hE.blk r2 (by omega), hE.blk r3 (by omega), s1.kv⟩
    · rw [c1.os, ← HC0.out.os, ← BW.os, r1.os]
    · rw [c1.tape, ← HC0.out.tape, ← BW.tape, r1.tape]
    · rw [c1.output, ← HC0.out.output, ← BW.output, r1.output]
    · rw [← r1.same b hb hn]
      rw [not_or] at hn
      rcases Nat.lt_or_ge b W0.heap.size with h1 | h1
      · rw [c1.same b h1 hn.1, BW.block b (by omega), HC0.out.same b h1 hn.1]
      · exact hE.1 b (by omega) (Nat.lt_of_lt_of_le hb r1.size))
  have HEL := hid3 hEL
  have HSM := hid3 hsm
  have HYB := hid3 YB
  clear hEL hsm YB B2 B3 hRd O1 cB IT BW HB1 HY1
  refine rf_outerC ITC (by rfl) (enters_of Tryz.func227 (by kernel_rfl) rfl) (fun i args n V V' h hc => h.cel hc) (fun i args n V h => by obtain ⟨e, kv, vv, s, _, rfl, _⟩ := h; rfl)
    (fun V => J0 V ∧ Ext W.heap.size w2 V)
    (fun i V => J i V ∧ Ext W.heap.size w2 V)
    (fun i V => Jt i V ∧ Ext W.heap.size w2 V)
    (fun c i V => c = .ret ∧ Jx i V ∧ w2.heap.size ≤ V.heap.size)
    (fun A B hx hr => ⟨hS0 A B hx.1 (hr.mono (by omega)), hx.2.rcd hr⟩)
    (fun i A B hx hr => ⟨hSJ i A B hx.1 (hr.mono (by omega)), hx.2.rcd hr⟩)
    (fun i A B hx hr => ⟨hSt i A B hx.1 (hr.mono (by omega)), hx.2.rcd hr⟩)
    (fun c i A B hx hr => ⟨hx.1, hSx i A B hx.2.1 (hr.mono (by omega)), Nat.le_trans hx.2.2 hr.size⟩)
    (by omega)
    (fun V hv => by obtain ⟨q1, q2, q3, q4⟩ := HJ0.out V hv.1; exact ⟨q1, q2, RDC.out V q3 hv.2, q4, hv.2.tick hgW⟩)
    (fun i V hv => by obtain ⟨q1, q2, q3, q4⟩ := HJ.out i V hv.1; exact ⟨q1, q2, RDC.out V q3 hv.2, fun hi => ⟨q4 (by omega), hv.2.tick hgW⟩⟩)
    ⟨J2, E2⟩ ?_ ?_ ?_
  · rintro l2 i args V Wv hl hlV hrec hiN ⟨hJi, hExt⟩ hb ⟨e0, kv, vv, s0, he0, rfl, hk0, hv0, _⟩
    obtain ⟨ak0, nk, hk1⟩ := hk0.shape
    obtain ⟨av, nv, hv1⟩ := hv0.shape
    subst hk1 hv1
    simp
    gi_wp2
    refine ⟨Below.refl _ _, ?_⟩
    intro V2 W2 hJ2 hExt2 hb2 hAr2 hoth hsz3 hV2 r hrec2
    obtain ⟨e1, kv1, vv1, t1, he1, harr, hk2, hv2, ht1⟩ := hAr2
    obtain rfl : e1 = e0 := by rw [he0] at he1; cases he1; rfl
    simp at harr
    obtain ⟨rfl, rfl⟩ := harr
    have tA := acct_any (ByU.of hv2) (HSM.out e1 (List.mem_of_getElem? he0)).2
    have hci : (accs E)[i]? = some (coinB e1.vl) := by simp [accs, ← HEL.out, he0, En.kl2]
    have yB := hExt2.blk HYB.out (Nat.le_refl _)
    have HE2 := hid3 hExt2
    have HYY := hid3 (HY.out i #[.int .u64 (coinB e1.vl)] V2)
    have HJT := hid3 hJ2
    have HB2 := hid3 hb2
    have hs2 : w2.heap.size ≤ V2.heap.size := hExt2.2
    have hs3 : V2.heap.size ≤ W2.heap.size := hb2.size
    have HYV := hid3 (yB.keep hb2)
    have HCI := hid3 hci
    clear hJi hExt hb hk0 hv0 hk2 hv2 hoth hExt2 hJ2 hb2 yB he1 he0 ht1 hci
    obtain ⟨cc, hcc⟩ : ∃ cc, Hid (coinB e1.vl = cc) := ⟨_, rfl⟩
    obtain ⟨ss, hss⟩ : ∃ ss, Hid (seqB e1.vl = ss) := ⟨_, rfl⟩
    simp only [hcc.out, hss.out] at tA HYY HCI
    gi_wp2_with (refine ⟨trivial, rfl, ?_⟩; gi_at_call 76; refine (CallsIn.inRound l2 (callsIn_wide.2 tA)).mono ?_; rintro e' w3 ⟨rfl, B3⟩; clear tA; have B4 := below_alloc w3 (.cells #[.int .u64 cc, .int .u64 ss] 39); have yC := (HYV.out.keep (joinB B3 B4)).cell (i := 0) rfl; have hYY := HYY.out _ (by omega) HJT.out (by omega) (joinB HB2.out (joinB B3 B4)) ⟨_, HCI.out, rfl⟩; obtain ⟨fn, tmps, assign, body, hy, hR⟩ := hYY; have hR2 : RoundIn (Fence.wide.inRound l2) 0 Tryz.prog l fn tmps assign body (w3.alloc (.cells #[.int .u64 cc, .int .u64 ss] 39)) _ := ⟨hR.1, fun c cs _ => hR.2 c cs (fun _ h => by cases h)⟩; have HR := hid3 hR2; have HK := hid3 (joinB B3 B4); clear hR hR2 B3 B4)
    refine ⟨rfl, HR.out.mono ?_⟩
    rintro e' w5 ⟨hk5, h5⟩
    have hkk : KeepsT TpN W.heap.size W2 w5 := (KeepsT.of HK.out).trans hk5
    have hE5 := (HE2.out.keep HB2.out).keepsT hkk
    have hk2 : KeepsT TpN w2.heap.size W2 w5 := hkk.mono (by omega)
    rcases h5 with ⟨rfl, hJ5⟩ | ⟨rfl, hJ5⟩
    · gi_wp2
      exact ⟨hk2, hJ5, hE5⟩
    · gi_wp2
      exact ⟨hk2, rfl, hJ5, hE5.2⟩
  · rintro D' W' hD hK ⟨hJn, hE⟩
    gi_wp2
    refine ⟨by simp, .inl ⟨_, _, rfl, run_takeDeferred hK, ?_⟩⟩
    have := hE.2
    exact ⟨_, results_none rfl _ _ _, ⟨_, rfl⟩, by simp; omega, .inl (by rw [hlen]; exact hSJ _ _ _ hJn (Rec.put hK rfl (by omega) _))⟩
  · rintro D' c i W' hD hK hiN ⟨rfl, hJx', hsz⟩
    gi_wp2
    refine ⟨by simp, .inl ⟨_, _, rfl, run_takeDeferred hK, ?_⟩⟩
    exact ⟨_, results_none rfl _ _ _, ⟨_, rfl⟩, by simp; omega, .inr ⟨i, by omega, hSx (i + 1) _ _ hJx' (Rec.put hK rfl (by omega) _)⟩⟩
end Bk
end
section
namespace Kv
open Go.RowKit Go.Lib Pg Bk
attribute [local go_sem] Oper.semAt_some
structure ExtC (a:Nat) (R V:World):Prop where
 same:∀ b cs t m,a<=b->R.heap[b]? = some (.cells cs t m)->V.heap[b]? = some (.cells cs t m)
 size:R.heap.size<=V.heap.size
theorem ExtC.of {a:Nat} {R V:World} (h:Ext a R V):ExtC a R V:=⟨fun b _ _ _ h1 h2=>(h.1 b h1 (lt_of_block h2)).trans h2,h.2⟩
theorem ExtC.rcd {a B:Nat} {R V V':World} (h:ExtC a R V) (hr:Rec B V V'):ExtC a R V':=⟨fun b cs t m h1 h2=>hr.same b _ (h.same b cs t m h1 h2) (.inr rfl),Nat.le_trans h.size hr.size⟩
theorem ExtC.keep {a:Nat} {R V V':World} (h:ExtC a R V) (hb:Below V.heap.size V V'):ExtC a R V':=⟨fun b cs t m h1 h2=>(hb.block b (lt_of_block (h.same b cs t m h1 h2))).trans (h.same b cs t m h1 h2),Nat.le_trans h.size hb.size⟩
theorem ExtC.chg {a:Nat} {F:Nat->Prop} {R V V':World} (h:ExtC a R V) (hc:Chg F V V') (hF:∀ b,F b->b < a\/R.heap.size<=b):ExtC a R V':=⟨fun b cs t m h1 h2=>(hc.same b (lt_of_block (h.same b cs t m h1 h2)) (fun hf=>by have:=hF b hf; have:=lt_of_block h2; omega)).trans (h.same b cs t m h1 h2),Nat.le_trans h.size hc.size⟩
theorem ExtC.tick {a g x:Nat} {R V:World} (h:ExtC a R V) (hg:g < a):ExtC a R (tick g V x):=h.chg (chg_tick g x V) (fun b e=>.inl (by have e':b=g:=e; omega))
theorem Ext.mix {Tp:TypeId->Prop} {a:Nat} {R V V':World} (h:Ext a R V) (hk:KeepsT Tp a V V') (hc:ExtC a R V'):Ext a R V' :=
 ⟨fun b h1 h2=>by
  have e:=h.1 b h1 h2
  have h3:R.heap[b]? = some R.heap[b]:=Array.getElem?_eq_getElem h2
  cases ho:R.heap[b] with
  | cells cs t m=>rw [ho] at h3; rw [hc.same b cs t m h1 h3,h3]
  | _=>rw [ho] at h3; rw [h3] at e ⊢; exact hk.same b _ h1 e (fun _ _ _ h=>by cases h),hc.size⟩
def ItrE (W0:World) (Tp:TypeId->Prop) (g x0:Nat) (gf:Nat) (lb:Array Value) (N:Nat) (Ar:Nat->Array Value->Nat->World->Prop) (Rd:World->Prop):Prop :=
 ∀ (l:Nat) (J0:World->Prop) (J Jt Jx:World->Nat->World->Prop) (W:World),(∀ b,W0.heap.size<=b->∀ cs,¬ Blk W b cs 5)->W0.heap.size<=W.heap.size->St W.heap.size J0->(∀ R i,St W.heap.size (J R i))->(∀ R i,St W.heap.size (Jt R i))->(∀ R i,St W.heap.size (Jx R i))->g < W.heap.size ->
  (∀ V,J0 V->V.cell? ⟨g,2,none⟩=some (.int .i64 x0)/\V.frozen? ⟨g,2,none⟩=false/\Rd V/\∀ R,W.heap.size<=R.heap.size->ExtC W.heap.size R V->J R 0 (tick g V x0)) ->
  (∀ R i V,J R i V->V.cell? ⟨g,2,none⟩=some (.int .i64 ((x0 + 1 + i:Nat):Int))/\V.frozen? ⟨g,2,none⟩=false/\Rd V/\ExtC W.heap.size R V/\(i < N->Jt R i (tick g V (x0 + 1 + i)))) ->
  (∀ R i args V V',W.heap.size<=R.heap.size->i < N->Jt R i V->W.heap.size<=V.heap.size->Below V.heap.size V V'->Ar i args V.heap.size V'->YieldAt Fence.wide 0 Tryz.prog l args V' fun e V''=>KeepsT Tp W.heap.size V' V''/\((e=.returned (.bool true)/\J R (i + 1) V'')\/(e=.returned (.bool false)/\Jx R (i + 1) V''))) ->
  J0 W ->
  Calls Tryz.prog gf (#[.func (.yield l) #[] #[]] ++ lb) W fun e W'=>(∃ v,e=.returned v)/\W.heap.size<=W'.heap.size/\∃ R:World,W.heap.size<=R.heap.size/\(J R N W'\/∃ i,i < N/\Jx R (i + 1) W')
theorem rf_outerE {Tp : TypeId → Prop} {gf N n g0 x0 : Nat} {lb : Array Value} {Ar : Nat → Array Value → Nat → World → Prop} {Rd : World → Prop} {w : World} (IT : ItrE w Tp g0 x0 gf lb N Ar Rd) {g : Operand} {ps : Array Tmp} {assign body : Code} {Q : Exit → Act → World → Prop} {a : Act}
    (hg : a.eval g = .func (.func gf) #[] lb) (eg : ∀ args w, (callFunc gf args).run Tryz.prog w = .ok (.enter gf args) w) (hArS : ∀ i args n V W, Ar i args n V → Cel V W → Ar i args n W) (hAn : ∀ i args n V, Ar i args n V → args.size = ps.size)
    (I0 : World → Prop) (I It : World → Nat → World → Prop) (Ix : World → Code → Nat → World → Prop) (hI0 : St w.heap.size I0) (hI : ∀ R i, St w.heap.size (I R i)) (hIt : ∀ R i, St w.heap.size (It R i)) (hIx : ∀ R c i, St w.heap.size (Ix R c i)) (hgw : g0 < w.heap.size)
    (hx0 : ∀ V, I0 V → V.cell? ⟨g0, 2, none⟩ = some (.int .i64 x0) ∧ V.frozen? ⟨g0, 2, none⟩ = false ∧ Rd V ∧ ∀ R, w.heap.size + 2 ≤ R.heap.size → ExtC (w.heap.size + 2) R V → I R 0 (tick g0 V x0))
    (hx : ∀ R i V, I R i V → V.cell? ⟨g0, 2, none⟩ = some (.int .i64 ((x0 + 1 + i : Nat) : Int)) ∧ V.frozen? ⟨g0, 2, none⟩ = false ∧ Rd V ∧ ExtC (w.heap.size + 2) R V ∧ (i < N → It R i (tick g0 V (x0 + 1 + i)))) (h0 : I0 w)
    (hround : ∀ R, w.heap.size + 2 ≤ R.heap.size → RoundC Tp w N n ps assign body a.tmps Ar (It R) (I R) (Ix R))
    (hdone : ∀ R D W, w.heap.size + 2 ≤ R.heap.size → w.heap.size ≤ D → W.heap[D]? = some (.deferred (some [])) → I R N W → Q .normal { a with defers := { target := .collected D, args := #[] } :: a.defers } W)
    (hstop : ∀ R D c i W, w.heap.size + 2 ≤ R.heap.size → w.heap.size ≤ D → W.heap[D]? = some (.deferred (some [])) → i < N → Ix R c (i + 1) W → c.wpIn Fence.wide n Tryz.prog Q { a with defers := { target := .collected D, args := #[] } :: a.defers } W) :
    (Code.rangeFunc g ps assign body).wpIn Fence.wide n Tryz.prog Q a w := by
  refine wpIn_rangeFunc ?_
  intro fn _
  obtain ⟨W1, hW1⟩ : ∃ W1, (w.alloc (.deferred (some []))).alloc (.loop (recd fn a.tmps ps assign body w.heap.size .ready none)) = W1 := ⟨_, rfl⟩
  have hB1 : Below w.heap.size w W1 := by rw [← hW1]; exact joinB (below_alloc w _) (below_alloc _ _)
  have hs1 : W1.heap.size = w.heap.size + 1 + 1 := by rw [← hW1]; simp
  have hL1 : W1.heap[w.heap.size + 1]? = some (.loop (recd fn a.tmps ps assign body w.heap.size .ready none)) := by
    rw [← hW1]; have := World.alloc_heap_new (w.alloc (.deferred (some []))) (.loop (recd fn a.tmps ps assign body w.heap.size .ready none)); rwa [World.size_alloc] at this
  have hK1 : W1.heap[w.heap.size]? = some (.deferred (some [])) := by
    rw [← hW1]; exact (Below.heap_alloc _ _ _ (by simp)).trans (World.alloc_heap_new w _)
  have t1 : ∀ V x, (tick g0 V x).heap[w.heap.size + 1]? = V.heap[w.heap.size + 1]? := fun V x => tick_other (by omega)
  have t2 : ∀ V x, (tick g0 V x).heap[w.heap.size]? = V.heap[w.heap.size]? := fun V x => tick_other (by omega)
  have hNB : ∀ b, w.heap.size ≤ b → ∀ cs, ¬ Blk W1 b cs 5 := fun b hb cs k => by
    have hlt := k.lt
    have hk := k.blk
    rcases Nat.lt_or_ge w.heap.size b with h1 | h1
    · obtain rfl : b = w.heap.size + 1 := by omega
      rw [hL1] at hk
      cases hk
    · obtain rfl : b = w.heap.size := by omega
      rw [hK1] at hk
      cases hk
  refine ⟨w.heap.size + 1, [{ target := .collected w.heap.size, args := #[] }], W1, { target := .fn (.func gf) lb, args := #[.func (.yield (w.heap.size + 1)) #[] #[]] }, W1, gf,
    #[.func (.yield (w.heap.size + 1)) #[] #[]] ++ lb, W1, ?_, ?_, ?_, ?_, fun h => (by cases h), ?_⟩
  · rw [← hW1]; exact run_enterLoop_outer _ _ _ _ _
  · simp only [resolve, hg]
    simp [go_sem]
  · intro f' _; trivial
  · simp [invoke, go_sem, eg]
  · refine callsIn_wide.2 ?_
    refine (IT (w.heap.size + 1)
      (fun W => I0 W ∧ W.heap[w.heap.size + 1]? = some (.loop (recd fn a.tmps ps assign body w.heap.size .ready none)) ∧ W.heap[w.heap.size]? = some (.deferred (some [])))
      (fun R i W => I R i W ∧ W.heap[w.heap.size + 1]? = some (.loop (recd fn a.tmps ps assign body w.heap.size .ready none)) ∧ W.heap[w.heap.size]? = some (.deferred (some [])))
      (fun R i W => It R i W ∧ W.heap[w.heap.size + 1]? = some (.loop (recd fn a.tmps ps assign body w.heap.size .ready none)) ∧ W.heap[w.heap.size]? = some (.deferred (some [])))
      (fun R i W => ∃ c, Ix R c i W ∧ W.heap[w.heap.size + 1]? = some (.loop (recd fn a.tmps ps assign body w.heap.size .done (some c))) ∧ W.heap[w.heap.size]? = some (.deferred (some [])))
      W1 hNB (by omega) (fun X Y hx hr => ⟨hI0 X Y hx.1 (hr.mono (by omega)), hr.same _ _ hx.2.1 (.inl (by omega)), hr.same _ _ hx.2.2 (.inl (by omega))⟩)
      (fun R i X Y hx hr => ⟨hI R i X Y hx.1 (hr.mono (by omega)), hr.same _ _ hx.2.1 (.inl (by omega)), hr.same _ _ hx.2.2 (.inl (by omega))⟩)
      (fun R i X Y hx hr => ⟨hIt R i X Y hx.1 (hr.mono (by omega)), hr.same _ _ hx.2.1 (.inl (by omega)), hr.same _ _ hx.2.2 (.inl (by omega))⟩)
      (fun R i X Y hx hr => by obtain ⟨c, h1, h2, h3⟩ := hx; exact ⟨c, hIx R c i X Y h1 (hr.mono (by omega)), hr.same _ _ h2 (.inl (by omega)), hr.same _ _ h3 (.inl (by omega))⟩)
      (by omega)
      (fun V hv => by obtain ⟨q1, q2, q3, q4⟩ := hx0 V hv.1; exact ⟨q1, q2, q3, fun R hR hE => ⟨q4 R (by omega) (hs1 ▸ hE), (t1 V x0).trans hv.2.1, (t2 V x0).trans hv.2.2⟩⟩)
      (fun R i V hv => by obtain ⟨q1, q2, q3, q5, q4⟩ := hx R i V hv.1; exact ⟨q1, q2, q3, hs1 ▸ q5, fun hi => ⟨q4 hi, (t1 V _).trans hv.2.1, (t2 V _).trans hv.2.2⟩⟩)
      ?_ ⟨hI0 _ _ h0 (Rec.of hB1), hL1, hK1⟩).mono ?_
    · rintro R i args V V' hRs hiN ⟨hi, hl, hk⟩ hsz hb ha
      have hr := hround R (by omega) _ i args V V' (by omega) (lt_of_block hl) ⟨_, hl⟩ hiN hi hb ha
      refine (yield_core (Tp := Tp) (B := w.heap.size) (i := 2 * i + 1) (I := zip2 (I R) (It R)) (Ix := fun c k => Ix R c (k / 2)) (Ar := fun k => Ar (k / 2)) (fun j => hArS (j / 2)) (fun j => by unfold zip2; split; exact hI R _; exact hIt R _) (fun c j => hIx R c _) (by omega) hl (by rw [zip2_odd]; exact hi) hb (by rw [show (2 * i + 1) / 2 = i by omega]; exact ha) (hAn _ _ _ _ ha) (wpIn_mono hr ?_)).mono ?_
      · intro e a1 W1 h
        cases e <;> first
          | (refine ⟨h.1, fun V2 W2 q1 q2 q3 q4 q5 q6 q7 => ?_⟩
             rw [zip2_odd] at q1
             rw [show (2 * i + 1) / 2 = i by omega] at q3
             exact wpIn_mono (h.2 V2 W2 q1 q2 q3 q4 q5 q6 q7) (fun e a W h => bpost_zip h))
          | exact h.elim
      · rintro e V'' ⟨hkp, h⟩
        have hk2 := hkp.same _ _ (Nat.le_refl _) (by omega) ((hb.block _ (lt_of_block hk)).trans hk) safe_def
        refine ⟨hkp.from (by omega) (by omega), h.imp (fun h => ⟨h.1, by have := h.2.1; rw [zip2_even] at this; exact this, h.2.2, hk2⟩) (fun h => ?_)⟩
        obtain ⟨h1, c, h2, h3⟩ := h
        rw [show (2 * i + 1 + 1) / 2 = i + 1 by omega] at h2
        exact ⟨h1, c, h2, h3, hk2⟩
    · rintro e W2 ⟨⟨v, rfl⟩, hsz, R, hRs, ⟨hi, hl, hk⟩ | ⟨i, hiN, c, hi, hl, hk⟩⟩
      · exact ⟨none, _, run_endLoop (P := Tryz.prog) hl (by simp [recd]), hdone R _ _ (by omega) (Nat.le_refl _) ((World.putObj_heap_other (by omega)).trans hk) (hI R _ _ _ hi (Rec.put hl rfl (by omega) _))⟩
      · exact ⟨some c, _, run_endLoop (P := Tryz.prog) hl (by simp [recd]), hstop R _ c i _ (by omega) (Nat.le_refl _) ((World.putObj_heap_other (by omega)).trans hk) hiN (hIx R c _ _ _ hi (Rec.put hl rfl (by omega) _))⟩
end Kv
end
section
namespace Ks
open Go.RowKit Go.Lib Pg Gl
attribute [local go_sem] Oper.semAt_some
set_option linter.unusedVariables false
set_option linter.unusedSimpArgs false
end Ks
end
section
namespace Pw
open Go.RowKit Go.Lib Pg Lim Gl Kv Bk
attribute [local go_sem] Oper.semAt_some
set_option linter.unusedVariables false
end Pw
end
section
namespace Pw
open Go.RowKit Go.Lib Pg Kv Bk
attribute [local go_sem] Oper.semAt_some
def TpU (t:TypeId):Prop:=t=22
def pks (r:Nat) (m0:Int) (E:Ents):List (Int × Int):=(E.filter (fun x=>decide ([m0] <+: x.1))).map (fun x=>(Ky.rdA r x.1,Ky.rdB x.1))
def ArP (r:Nat) (ps:List (Int × Int)) (i:Nat) (args:Array Value) (_:Nat) (_:World):Prop:=∃ c,ps[i]? = some c/\args=#[.agg #[.int .i64 (r:Int),.int .u64 c.1,.int .u64 c.2]]
theorem of10 (w:World):Calls Tryz.prog 163 #[.int .i64 (10:Nat)] w fun e w'=>∃ v,e=.returned (.tuple #[v,.int .i64 0])/\OB w' (w.heap.size <= ·) v [105]/\Below w.heap.size w w':=Ky.of_any (k:=10)
theorem of11 (w:World):Calls Tryz.prog 163 #[.int .i64 (11:Nat)] w fun e w'=>∃ v,e=.returned (.tuple #[v,.int .i64 0])/\OB w' (w.heap.size <= ·) v [98]/\Below w.heap.size w w':=Ky.of_any (k:=11)
theorem marked_mk {w:World} {p:Option Addr} {r:Nat}:Calls Tryz.prog 250 #[.pointer p,.int .i64 r] w fun e w'=>∃ bs bk,e=.returned (.func (.func 323) #[] #[.pointer (some ⟨bk,0,none⟩),.pointer (some ⟨bs,0,none⟩)])/\w.heap.size<=bs/\w.heap.size<=bk/\Blk w' bs [.pointer p] 27/\Blk w' bk [.int .i64 r] 3/\Below w.heap.size w w':=by
 have b1:=below_alloc w (.cells #[.pointer p] 27)
 have c1:=blk_new w [.pointer p] 27
 have b2:=below_alloc (w.alloc (.cells #[.pointer p] 27)) (.cells #[.int .i64 r] 3)
 have c2:=blk_new (w.alloc (.cells #[.pointer p] 27)) [.int .i64 r] 3
 go_enter Tryz.func250,Tryz.ntmps250
 go_wp2
 go_ret
 exact ⟨_,_,rfl,Nat.le_refl _,by simp,c1.keep b2,by simpa using c2,joinB b1 b2⟩
theorem marked_itr {W0 : World} {K D X : Nat → Prop} {g bk bs x0 N r : Nat} {m0 : Int} {E : Ents} {Wn : List Ents} (hS : SA W0 K D g E Wn x0 N) (hbs : Blk W0 bs [.pointer (some ⟨g, 0, none⟩)] 27) (hXb : ¬ X bs) (hbk : Blk W0 bk [.int .i64 r] 3) (hXk : ¬ X bk) (hr : r < 18) (hr0 : 0 < r) (hOf : ∀ w, Calls Tryz.prog 163 #[.int .i64 r] w fun e w' => ∃ v, e = .returned (.tuple #[v, .int .i64 0]) ∧ OB w' (w.heap.size ≤ ·) v [m0] ∧ Below w.heap.size w w') (hRk : ∀ x ∈ E, [m0] <+: x.1 → Ky.frm r = Ky.fIn x.1) (hX1 : ∀ b, X b → b = g ∨ ¬ K b) (hXl : ∀ b, X b → b < W0.heap.size) (hN : N ≤ 100000000) (hx : x0 + N ≤ 2000000000000000000) :
    ItrE W0 TpU g x0 323 #[.pointer (some ⟨bk, 0, none⟩), .pointer (some ⟨bs, 0, none⟩)] (pks r m0 E).length (ArP r (pks r m0 E)) (RdS W0 X K D g E Wn N) := by
  intro l J0 J Jt Jx W hNB hW0 hS0 hSJ hSt hSx hgW hJ0 hJ hY h0
  obtain ⟨_, _, ⟨c0, u0, xx, s0⟩, _⟩ := hJ0 _ h0
  have B1 := below_alloc W (.cells #[.func (.yield l) #[] #[]] 398)
  have Y1 := blk_new W [.func (.yield l) #[] #[]] 398
  have s1 : (W.alloc (.cells #[.func (.yield l) #[] #[]] 398)).heap.size = W.heap.size + 1 := by simp
  obtain ⟨Wa, hWa⟩ : ∃ Wa, Hid (W.alloc (.cells #[.func (.yield l) #[] #[]] 398) = Wa) := ⟨_, rfl⟩
  rw [hWa.out] at B1 Y1 s1
  have bsW := hbs.chg c0 hXb
  have cK : (W.alloc (.cells #[.func (.yield l) #[] #[]] 398)).cell? ⟨bk, 0, none⟩ = some (.int .i64 r) := by rw [hWa.out]; exact ((hbk.chg c0 hXk).keep B1).cell (i := 0) rfl
  have hK0 : ∀ b, K b → b < W0.heap.size := fun b hb => hS.lt hb
  have HX' : Hid (∀ b, (X b ∨ (W0.heap.size ≤ b ∧ b < W.heap.size)) → b = g ∨ ¬ K b) := hid3 (fun b hb => hb.elim (hX1 b) (fun h => .inr (fun hk => by have := hK0 b hk; omega)))
  have HXl : Hid (∀ b, (X b ∨ (W0.heap.size ≤ b ∧ b < W.heap.size)) → b < W.heap.size) := hid3 (fun b hb => hb.elim (fun h => Nat.lt_of_lt_of_le (hXl b h) hW0) (fun h => h.2))
  have HXU : Hid (∀ b, (X b ∨ (W0.heap.size ≤ b ∧ b < W.heap.size)) → ∀ cs, ¬ Blk W b cs 5) := hid3 (fun b hb => hb.elim (u0 b) (fun h => hNB b h.1))
  have HY := hid3 hY
  have HJ := hid3 hJ
  have HJ0 := hid3 hJ0
  have H0 := hid3 h0
  have HS := hid3 s0
  have HC0 := hid3 c0
  have HB1 := hid3 B1
  have HY1 := hid3 Y1
  have HBS := hid3 bsW
  clear hJ0 hJ hY h0 s0 c0 B1 Y1 bsW hNB u0
  refine (callsIn_wide (n := 0)).1 ?_
  refine callsIn_of_wp_marks Tryz.func323 rfl trivial ?_ rfl
  simp only [Tryz.ntmps323, List.size_toArray, List.length_cons, List.length_nil, Nat.reduceAdd, Nat.reduceSub, Array.replicate_succ, Array.replicate_zero, List.push_toArray, List.append_toArray, List.nil_append, List.cons_append]
  gi_wp2_with first
    | (refine ⟨trivial, rfl, ?_⟩; gi_at_call 163; rw [hWa.out]; refine (callsIn_wide.2 (hOf _)).mono ?_; rintro e' w1 ⟨v1, rfl, O1, B2⟩; have cB := (HBS.out.keep (joinB HB1.out B2)).cell (i := 0) rfl; have tP := sprefixG (Tp := TpU) (X := fun b => X b ∨ (W0.heap.size ≤ b ∧ b < W.heap.size)) (HS.out.keep (joinB HB1.out B2)) hN O1.by (by simp) HX'.out (fun b hb cs k => HXU.out b hb cs ⟨by rw [← (joinB HB1.out B2).block b (HXl.out b hb)]; exact k.blk⟩) (fun b hb => Nat.lt_of_lt_of_le (HXl.out b hb) (joinB HB1.out B2).size) (by unfold TpU; decide) (by unfold TpU; decide); obtain ⟨pa, pc, rfl⟩ := O1.shape)
    | (refine ⟨trivial, rfl, ?_⟩; gi_at_call 165; refine (callsIn_wide.2 tP).mono ?_; rintro e' w2 ⟨v2, EL, rfl, IG, hEL, B3⟩; obtain ⟨bs1, bs2, bw, W1, rfl, IT, hRd, hb1, hb2⟩ := IG.ex; have hsm := IG.small; clear tP IG)
  have BW := joinB (joinB HB1.out B2) B3
  have hw1 : W.heap.size + 1 ≤ w1.heap.size := by have := B2.size; omega
  have hw2 : W.heap.size + 1 ≤ w2.heap.size := Nat.le_trans hw1 B3.size
  have YB := (HY1.out.keep B2).keep B3
  have hlen : (pks r m0 E).length = EL.length := by simp [pks, ← hEL]
  have hle : EL.length ≤ N := by
    have h1 := HS.out.size
    have h2 : (EL.map En.kl2).length ≤ E.length := by rw [hEL]; exact List.length_filter_le _ _
    rw [List.length_map] at h2
    omega
  have ITC := counted_itr (g := g) (bs1 := bs1) (bs2 := bs2) (x0 := x0) IT (by unfold TpU; decide) (by omega)
  have J2 := hS0 _ _ H0.out (Rec.of BW)
  have E2 : Ext W.heap.size w2 w2 := ⟨fun _ _ _ => rfl, Nat.le_refl _⟩
  have RDC : Hid (∀ V, RdS W0 X K D g E Wn N V → Ext W.heap.size w2 V → RdC (fun b => X b ∨ (W0.heap.size ≤ b ∧ b < W.heap.size)) W1 g bs1 bs2 bw V) := hid3 (fun V hR hE => by
    obtain ⟨c1, _, x, s1⟩ := hR
    obtain ⟨r1, r2, r3, _⟩ := hRd
    refine ⟨⟨?_, ?_, ?_, Nat.le_trans r1.size hE.2, fun b hb hn => ?_⟩, hE.blk r2 (by omega), hE.blk r3 (by omega), s1.kv⟩
    · rw [c1.os, ← HC0.out.os, ← BW.os, r1.os]
    · rw [c1.tape, ← HC0.out.tape, ← BW.tape, r1.tape]
    · rw [c1.output, ← HC0.out.output, ← BW.output, r1.output]
    · rw [← r1.same b hb hn]
      rw [not_or] at hn
      rcases Nat.lt_or_ge b W0.heap.size with h1 | h1
      · rw [c1.same b h1 hn.1, BW.block b (by omega), HC0.out.same b h1 hn.1]
      · exact hE.1 b (by omega) (Nat.lt_of_lt_of_le hb r1.size))
  have HEL := hid3 hEL
  have HSM := hid3 hsm
  have HYB := hid3 YB
  clear hEL hsm YB B2 B3 hRd O1 cB IT BW HB1 HY1
  refine rf_outerC ITC (by rfl) (enters_of Tryz.func227 (by kernel_rfl) rfl) (fun i args n V V' h hc => h.cel hc) (fun i args n V h => by obtain ⟨e, kv, vv, s, _, rfl, _⟩ := h; rfl)
    (fun V => J0 V ∧ Ext W.heap.size w2 V)
    (fun i V => J w2 i V ∧ Ext W.heap.size w2 V)
    (fun i V => Jt w2 i V ∧ Ext W.heap.size w2 V)
    (fun c i V => c = .ret ∧ Jx w2 i V ∧ w2.heap.size ≤ V.heap.size)
    (fun A B hx hr => ⟨hS0 A B hx.1 (hr.mono (by omega)), hx.2.rcd hr⟩)
    (fun i A B hx hr => ⟨hSJ w2 i A B hx.1 (hr.mono (by omega)), hx.2.rcd hr⟩)
    (fun i A B hx hr => ⟨hSt w2 i A B hx.1 (hr.mono (by omega)), hx.2.rcd hr⟩)
    (fun c i A B hx hr => ⟨hx.1, hSx w2 i A B hx.2.1 (hr.mono (by omega)), Nat.le_trans hx.2.2 hr.size⟩)
    (by omega)
    (fun V hv => by obtain ⟨q1, q2, q3, q4⟩ := HJ0.out V hv.1; exact ⟨q1, q2, RDC.out V q3 hv.2, q4 w2 (by omega) (ExtC.of hv.2), hv.2.tick hgW⟩)
    (fun i V hv => by obtain ⟨q1, q2, q3, q5, q4⟩ := HJ.out w2 i V hv.1; exact ⟨q1, q2, RDC.out V q3 hv.2, fun hi => ⟨q4 (by omega), hv.2.tick hgW⟩⟩)
    ⟨J2, E2⟩ ?_ ?_ ?_
  · rintro l2 i args V Wv hl hlV hrec hiN ⟨hJi, hExt⟩ hb ⟨e0, kv, vv, s0, he0, rfl, hk0, hv0, _⟩
    obtain ⟨ak0, nk, hk1⟩ := hk0.shape
    obtain ⟨av, nv, hv1⟩ := hv0.shape
    subst hk1 hv1
    simp
    gi_wp2
    refine ⟨Below.refl _ _, ?_⟩
    intro V2 W2 hJ2 hExt2 hb2 hAr2 hoth hsz3 hV2 rl hrec2
    obtain ⟨e1, kv1, vv1, t1, he1, harr, hk2, hv2, ht1⟩ := hAr2
    obtain rfl : e1 = e0 := by rw [he0] at he1; cases he1; rfl
    simp at harr
    obtain ⟨rfl, rfl⟩ := harr
    have hmE : e1.kl2 ∈ E.filter (fun x => decide ([m0] <+: x.1)) := by rw [← HEL.out]; exact List.mem_map.2 ⟨e1, List.mem_of_getElem? he0, rfl⟩
    have hfr := hRk _ (List.mem_filter.1 hmE).1 (of_decide_eq_true (List.mem_filter.1 hmE).2)
    have tA := Ky.read_yes hk2.by (HSM.out e1 (List.mem_of_getElem? he0)).1 hr hr0 hfr
    have hci : (pks r m0 E)[i]? = some (Ky.rdA r e1.kl, Ky.rdB e1.kl) := by simp [pks, ← HEL.out, he0, En.kl2]
    have yB := hExt2.blk HYB.out (Nat.le_refl _)
    have HE2 := hid3 hExt2
    have HYY := hid3 (HY.out w2 i #[.agg #[.int .i64 (r : Int), .int .u64 (Ky.rdA r e1.kl), .int .u64 (Ky.rdB e1.kl)]] V2)
    have HJT := hid3 hJ2
    have HB2 := hid3 hb2
    have hs2 : w2.heap.size ≤ V2.heap.size := hExt2.2
    have hs3 : V2.heap.size ≤ W2.heap.size := hb2.size
    have HYV := hid3 (yB.keep hb2)
    have HCI := hid3 hci
    clear hmE hfr hJi hExt hb hk0 hv0 hk2 hv2 hoth hExt2 hJ2 hb2 yB he1 he0 ht1 hci
    obtain ⟨cc, hcc⟩ : ∃ cc, Hid (Ky.rdA r e1.kl = cc) := ⟨_, rfl⟩
    obtain ⟨ss, hss⟩ : ∃ ss, Hid (Ky.rdB e1.kl = ss) := ⟨_, rfl⟩
    simp only [hcc.out, hss.out] at tA HYY HCI
    gi_wp2_with (refine ⟨trivial, rfl, ?_⟩; gi_at_call 72; refine (CallsIn.inRound l2 (callsIn_wide.2 tA)).mono ?_; rintro e' w3 ⟨rfl, B3⟩; clear tA; have B4 := below_alloc w3 (.cells #[.int .i64 (r : Int), .int .u64 cc, .int .u64 ss] 35); have yC := (HYV.out.keep (joinB B3 B4)).cell (i := 0) rfl; have hYY := HYY.out _ (by omega) (by omega) HJT.out (by omega) (joinB HB2.out (joinB B3 B4)) ⟨_, HCI.out, rfl⟩; obtain ⟨fn, tmps, assign, body, hy, hR⟩ := hYY; have hR2 : RoundIn (Fence.wide.inRound l2) 0 Tryz.prog l fn tmps assign body (w3.alloc (.cells #[.int .i64 (r : Int), .int .u64 cc, .int .u64 ss] 35)) _ := ⟨hR.1, fun c cs _ => hR.2 c cs (fun _ h => by cases h)⟩; have HR := hid3 hR2; have HK := hid3 (joinB B3 B4); clear hR hR2 B3 B4)
    refine ⟨rfl, HR.out.mono ?_⟩
    rintro e' w5 ⟨hk5, h5⟩
    have hkk : KeepsT TpU W.heap.size W2 w5 := (KeepsT.of HK.out).trans hk5
    have hk2 : KeepsT TpU w2.heap.size W2 w5 := hkk.mono (by omega)
    rcases h5 with ⟨rfl, hJ5⟩ | ⟨rfl, hJ5⟩
    · gi_wp2
      exact ⟨hk2, hJ5, Ext.mix (HE2.out.keep HB2.out) hkk (HJ.out w2 (i + 1) w5 hJ5).2.2.2.1⟩
    · gi_wp2
      exact ⟨hk2, rfl, hJ5, Nat.le_trans (HE2.out.keep HB2.out).2 hkk.size⟩
  · rintro D' W' hD hK ⟨hJn, hE⟩
    gi_wp2
    refine ⟨by simp, .inl ⟨_, _, rfl, run_takeDeferred hK, ?_⟩⟩
    have := hE.2
    exact ⟨_, results_none rfl _ _ _, ⟨_, rfl⟩, by simp; omega, w2, by omega, .inl (by rw [hlen]; exact hSJ w2 _ _ _ hJn (Rec.put hK rfl (by omega) _))⟩
  · rintro D' c i W' hD hK hiN ⟨rfl, hJx', hsz⟩
    gi_wp2
    refine ⟨by simp, .inl ⟨_, _, rfl, run_takeDeferred hK, ?_⟩⟩
    exact ⟨_, results_none rfl _ _ _, ⟨_, rfl⟩, by simp; omega, w2, by omega, .inr ⟨i, by omega, hSx w2 (i + 1) _ _ hJx' (Rec.put hK rfl (by omega) _)⟩⟩
end Pw
end
end Go.Proofs.YtopifdikfhffgaaGreat
