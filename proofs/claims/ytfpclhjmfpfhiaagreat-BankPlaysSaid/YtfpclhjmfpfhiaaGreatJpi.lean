/- Several texts, joined: BkA, BkB, BkC, BkD, BkE, BkF, BkG, KvCb, KvLi, KvCc, KvCd, KvCe, KvCg, BkH, BkI, BkK, KvCf, KvDa, KvDb, KvDc, KvDd, KvDe, KvDf, KvDg, KvDh, KvDi, KvDj, KvDk, KvDl, KvDm. -/
import Derived.Test.YtfpclhjmfpfhiaaGreatJpc
import Derived.Test.YtfpclhjmfpfhiaaGreatJpd
import Derived.Test.YtfpclhjmfpfhiaaGreatJpe
import Derived.Test.YtfpclhjmfpfhiaaGreatJph
import Derived.Test.YtfpclhjmfpfhiaaGreatJpf
import Derived.Lib.SlBytesConst
namespace Go.Proofs.YtfpclhjmfpfhiaaGreat
namespace Bk
open Go.RowKit Go.Lib Pg Lim Gl Kv
structure Sx (B:Nat) (w:World) (K:Nat->Prop) (g:Nat) (E:Ents) (W:List Ents) (n N:Nat):Prop where
 sa:SA w K (B <= ·) g E W n N
 lo:B<=w.heap.size
 kb:∀ b,K b->B<=b
structure SxE (B:Nat) (w:World) (K:Nat->Prop) (g:Nat) (E:Ents) (W:List Ents) (n N:Nat) (r:Value) (e:Ending) (w':World):Prop where
 ret:e=.returned r
 ex:∃ K',Sx B w' K' g E W n N/\(∀ b,K' b->K b\/w.heap.size<=b)/\Chg K w w'
structure SxF (B:Nat) (w:World) (K:Nat->Prop) (g:Nat) (E:Ents) (W:List Ents) (n N:Nat) (r:Value) (e:Ending) (w':World):Prop where
 ret:e=.returned r
 ex:∃ K' n' N',Sx B w' K' g E W n' N'/\n'<=n + 10/\N'<=N + 10/\(∀ b,K' b->K b\/w.heap.size<=b)/\Chg K w w'
structure At (B:Nat) (w0:World) (K0:Nat->Prop) (w:World) (K:Nat->Prop) (g:Nat) (E:Ents) (W:List Ents) (n N:Nat):Prop where
 sx:Sx B w K g E W n N
 km:∀ b,K b->K0 b\/w0.heap.size<=b
 cc:Chg K0 w0 w
section
variable {B:Nat} {w0 w w':World} {K0 K K':Nat->Prop} {g:Nat} {E E':Ents} {W W':List Ents} {n N n' N':Nat}
theorem Sx.at (h:Sx B w K g E W n N):At B w K w K g E W n N:=⟨h,fun _ h=>.inl h,Chg.refl _ _⟩
theorem Sx.keep (h:Sx B w K g E W n N) (b:Below w.heap.size w w'):Sx B w' K g E W n N:=⟨h.sa.keep b,Nat.le_trans h.lo b.size,h.kb⟩
theorem At.keep (h:At B w0 K0 w K g E W n N) (b:Below w.heap.size w w'):At B w0 K0 w' K g E W n N:=⟨h.sx.keep b,h.km,h.cc.trans (Chg.of (F:=fun _=>False) b) (fun _ _ h=>h.elim)⟩
theorem At.drew (h:At B w0 K0 w K g E W n N):At B w0 K0 w.drew K g E W n N:=h.keep (Below.refl _ _).drew
theorem At.lt (h:At B w0 K0 w K g E W n N) {b:Nat} (hb:K b):b < w.heap.size:=h.sx.sa.lt hb
theorem At.size (h:At B w0 K0 w K g E W n N):w0.heap.size<=w.heap.size:=h.cc.size
theorem At.cell {x:Nat} {cs:List Value} {t:TypeId} (h:At B w0 K0 w K g E W n N) (X:Blk w x cs t) (C:Chg (· = x) w w') (hx:w0.heap.size<=x) (hk:¬ K x) (ht:t≠5):At B w0 K0 w' K g E W n N:=by
 refine ⟨⟨h.sx.sa.chg C (fun b e hb=>hk ((show b=x from e)▸hb)) (fun b e cs' k => ?_),Nat.le_trans h.sx.lo C.size,h.sx.kb⟩,h.km,h.cc.trans C (fun b hb e=>by have e':b=x:=e; omega)⟩
 have e':b=x:=e
 subst e'
 exact ht (X.eq k).2
theorem At.op (h:At B w0 K0 w K g E W n N) (hs:Sx B w' K' g E' W' n' N') (hK:∀ b,K' b->K b\/w.heap.size<=b) (hc:Chg K w w'):At B w0 K0 w' K' g E' W' n' N' :=
 ⟨hs,fun b hb=>(hK b hb).elim (h.km b) (fun h2=>.inr (Nat.le_trans h.cc.size h2)),h.cc.trans hc (fun b hb hk=>(h.km b hk).elim id (fun h2=>by omega))⟩
theorem not_op {x:Nat} {cs:List Value} {t:TypeId} (X:Blk w x cs t) (hn:¬ K x) (hK:∀ b,K' b->K b\/w.heap.size<=b):¬ K' x:=fun h=>(hK x h).elim hn (fun h2=>by have:=X.lt; omega)
theorem At.new {x:Nat} (h:At B w0 K0 w K g E W n N) (hx:w.heap.size<=x):¬ K x:=fun hk=>by have:=h.lt hk; omega
theorem At.byu {v:Value} {l:List Int} (h:At B w0 K0 w K g E W n N) (hv:ByU w v l) (C:Chg K w w'):ByU w' v l:=hv.chg C h.sx.sa.kind
theorem byu_keep {v:Value} {l:List Int} (h:ByU w v l) (b:Below w.heap.size w w'):ByU w' v l:=h.chg (K:=fun _=>False) (Chg.of b) (fun _ h=>h.elim)
theorem byu_cell {x:Nat} {cs:List Value} {t:TypeId} {v:Value} {l:List Int} (h:ByU w v l) (X:Blk w x cs t) (C:Chg (· = x) w w') (ht:t≠5):ByU w' v l:=h.chg C (fun b e=>⟨cs,t,by have e':b=x:=e; subst e'; exact X,ht⟩)
theorem Sx.bk {v:Value} {l:List Int} (h:Sx B w K g E W n N) (hv:ByU w v l):BK w K v l:=fun _ hc=>(hv.chg hc h.sa.kind).byt
theorem Sx.ends {r:Value} {P:Nat} {args:Array Value} (h:Sx B w K g E W n N) (u:Calls Tryz.prog P args w (Kv.Ends w K (B <= ·) g E' W' n' N' r)):Calls Tryz.prog P args w (SxE B w K g E' W' n' N' r):=by
 refine u.mono ?_
 rintro e w' ⟨rfl,K',hs,hK,hc⟩
 exact ⟨rfl,K',⟨hs.mono (fun b _ hb=>hb.elim id (Nat.le_trans h.lo)),Nat.le_trans h.lo hc.size,fun b hb=>(hK b hb).elim (h.kb b) (Nat.le_trans h.lo)⟩,hK,hc⟩
theorem xset {kv vv:Value} {k v:List Int} (h:Sx B w K g E W n N) (hk:ByU w kv k) (hv:ByU w vv v) (hn:n<=4000000000000000000) (hN:N + 2<=100000000) :
  Calls Tryz.prog 49 #[pg g,kv,vv] w (SxE B w K g (if setE k v=0 then put E k v else E) W (n + 1) (N + 2) (.int .i64 (setE k v))):=h.ends (sset h.sa (h.bk hk) (h.bk hv) hn hN)
theorem xdel {kv:Value} {k:List Int} (h:Sx B w K g E W n N) (hk:ByU w kv k) (hkl:k.length<=1000000000) (hn:n<=4000000000000000000) (hN:N + 2<=100000000) :
  Calls Tryz.prog 48 #[pg g,kv] w (SxE B w K g (rem E k) W (n + 1) (N + 2) (.bool (Kv.look E k).isSome)):=h.ends (sdel h.sa (h.bk hk) hkl hn hN)
structure GetE (B:Nat) (w:World) (K:Nat->Prop) (g:Nat) (E:Ents) (W:List Ents) (n N:Nat) (k:List Int) (e:Ending) (w':World):Prop where
 ex:∃ v,e=.returned (.tuple #[v,.bool (Kv.look E k).isSome])/\ByU w' v ((Kv.look E k).getD [])/\Sx B w' K g E W n N/\Chg K w w'
theorem xget {kv:Value} {k:List Int} (h:Sx B w K g E W n N) (hk:ByU w kv k) (hn:n<=4000000000000000000) (hN:N<=100000000) :
  Calls Tryz.prog 32 #[pg g,kv] w (GetE B w K g E W (n + 1) N k):=by
 refine (sget h.sa (h.bk hk) hn hN).mono ?_
 rintro e w' ⟨v,rfl,O,S,C⟩
 exact ⟨v,rfl,ByU.of O,⟨S,Nat.le_trans h.lo C.size,h.kb⟩,C⟩
end
theorem bya {w:World} {v:Value} {l:List Int} (h:By w v l):∃ b ao c,v=.slice ao l.length c/\ByA w b ao l.length c l:=by
 obtain ⟨ao,c,e,h1,h2,h3,h4,h5⟩:=h.ex
 rcases h5 with rfl | ⟨b,o,rfl,_,h6⟩
 ·exact ⟨0,ao,c,e,0,rfl,h1,⟨h2,h3⟩,h4,.inl rfl,fun i hi=>absurd hi (by simp)⟩
 ·exact ⟨b,_,c,e,o,rfl,h1,⟨h2,h3⟩,h4,.inr rfl,fun i hi=>h6 i _ (by rw [nth_eq hi]; exact List.getElem?_eq_getElem hi)⟩
theorem byu_box {w:World} {b n:Nat} {l:List Int} (h:Box w b (l.map (Value.int .u8)) 5) (ho:Oct l) (hn:n=l.length) (hl:l.length<=1000000):ByU w (.slice (some ⟨b,0,none⟩) n n) l:=by
 subst hn
 refine ⟨⟨_,_,rfl,Nat.le_refl _,by omega,fun e=>by simp at e,ho,.inr ⟨b,0,rfl,h.lt,fun i x hi => ?_⟩⟩,fun b' o n' c e => ?_⟩
 ·rw [Nat.zero_add]
  have e:=h.blk
  simp [World.cell?,e,hi]
 ·simp only [Value.slice.injEq,Option.some.injEq,Addr.mk.injEq] at e
  obtain ⟨⟨rfl,_⟩,_⟩:=e
  exact ⟨_,_,h.blk⟩
def ak (id:Int):List Int:=Ky.mk 4 id 0
def pv (x y:Int):List Int:=Rc.thr (Rc.pnx (fun o=>([x,y]:List Int).getD o 0)) [(0,0),(0,1)] []
def coinB (l:List Int):Int:=Rc.outX (Rc.stAccount l) 0
def seqB (l:List Int):Int:=Rc.outX (Rc.stAccount l) 1
def coin (E:Ents) (id:Int):Int:=coinB ((Kv.look E (ak id)).getD [])
def seqn (E:Ents) (id:Int):Int:=seqB ((Kv.look E (ak id)).getD [])
def layE (E:Ents) (id x y:Int):Ents:=if x=0/\y=0 then rem E (ak id) else put E (ak id) (pv x y)
def isA (id:Int):Prop:=(1<=id/\id<=4)\/16<=id
instance (id:Int):Decidable (isA id):=by unfold isA; infer_instance
def holdsP (x k:Int):Prop:=x<=1000000000000000000/\k<=1000000000000000000 - x
instance (x k:Int):Decidable (holdsP x k):=by unfold holdsP; infer_instance
theorem ak_len (id:Int):0 < (ak id).length/\(ak id).length<=18:=by
 refine ⟨?_,Ky.mk_len _ _ _⟩
 unfold ak
 rw [Ky.mk_eq (k:=4) (n:=9) (m0:=97) (m1:=0) rfl]
 simp
theorem pv_len (x y:Int):(pv x y).length<=600:=by have:=Rc.pnx_len (fun o=>([x,y]:List Int).getD o 0) [(0,0),(0,1)] []; simpa [pv] using this
theorem pv_oct (x y:Int):Oct (pv x y):=Rc.thr_oct _ _ _ (fun _ h=>by simp at h)
theorem set_ok (id x y:Int):setE (ak id) (pv x y)=0:=by
 have h1:=ak_len id
 have h2:=pv_len x y
 unfold setE
 rw [if_neg (by omega),if_neg (by omega)]
theorem pv_back {x y:Int} (hx:0<=x/\x < 18446744073709551616) (hy:0<=y/\y < 18446744073709551616):coinB (pv x y)=x/\seqB (pv x y)=y:=by
 obtain ⟨ys,h1,h2⟩:=Rc.thr_back (fun o=>([x,y]:List Int).getD o 0) [(0,0),(0,1)] [] (fun _=>0) (by decide) (by
  intro p hp
  simp only [List.mem_cons,List.not_mem_nil,or_false] at hp
  rcases hp with rfl | rfl
  ·exact hx
  ·exact hy)
 rw [List.append_nil] at h1
 have e:Rc.stAccount (pv x y)=(0,[],ys):=h1
 unfold coinB seqB
 rw [e]
 have f:Rc.outX (0,[],ys)=ys:=rfl
 rw [f]
 have a:=h2.1 (0,0) (by simp)
 have b:=h2.1 (0,1) (by simp)
 exact ⟨a,b⟩
end Bk
end Go.Proofs.YtfpclhjmfpfhiaaGreat
namespace Go.Proofs.YtfpclhjmfpfhiaaGreat
namespace Bk
open Go.RowKit Go.Lib Pg Lim Gl Kv
attribute [local go_sem] Oper.semAt_some
set_option maxRecDepth 100000
set_option linter.unusedSimpArgs false
set_option linter.unusedVariables false
set_option maxHeartbeats 2000000
theorem ake (id:Int):(if Ky.mkE 4 id 0 then [] else Ky.mk 4 id 0)=ak id:=by
 have e:Ky.mkE 4 id 0=false:=by
  unfold Ky.mkE
  rw [show (Ky.frm 4).1=9 from rfl]
  simp
 rw [e]
 rfl
theorem key_any {w:World} {id:Int} (hid:0<=id/\id < 18446744073709551616):Calls Tryz.prog 33 #[.int .u64 id] w fun e w'=>∃ v,e=.returned v/\ByU w' v (ak id)/\Below w.heap.size w w':=by
 have BB:=Below.refl w.heap.size w
 refine gc_enter (n:=12) Tryz.func33 rfl (by kernel_rfl) (by kernel_rfl) ?_
 refine gc_seq ?_
 refine gc_reg ?_
 refine t 2 (.slice none 0 0) ?_
 refine gl_nil ?_
 refine ge_then ?_
 refine gc_seq ?_
 refine gc_reg ?_
 refine t 6 (.int .u64 id) ?_
 refine t 7 (.agg #[.int .i64 4,.int .u64 id,.int .u64 0]) ?_
 refine tc 8 56 #[.agg #[.int .i64 4,.int .u64 id,.int .u64 0]] (Ky.make_any hid.1 hid.2) ?_
 rintro _ v1 ⟨kv0,rfl,U0,B⟩
 refine ⟨_,rfl,?_⟩
 replace BB:=joinB BB B
 clear B
 refine t 5 (.tuple #[kv0,.int .i64 (if Ky.mkE 4 id 0 then 70 else 0)]) ?_
 refine t 9 (kv0) ?_
 refine t 10 (.int .i64 (if Ky.mkE 4 id 0 then 70 else 0)) ?_
 refine t 3 (kv0) ?_
 refine t 4 (.int .i64 (if Ky.mkE 4 id 0 then 70 else 0)) ?_
 refine gl_nil ?_
 refine ge_then ?_
 refine gc_seq ?_
 refine gc_reg ?_
 refine t 11 (kv0) ?_
 refine t 2 (kv0) ?_
 refine gl_nil ?_
 refine ge_then ?_
 refine gc_fr [(2,kv0)] (by kernel_rfl) ?_
 refine gc_ret ?_
 refine ge_ret (kv0) (rs1 2 (by kernel_rfl) (by kernel_rfl)) ?_
 exact ⟨_,rfl,by rw [ake id] at U0; exact ByU.of U0,BB⟩
theorem acct_any {w:World} {v:Value} {l:List Int} (h:ByU w v l) (hl:l.length<=1000000000):Calls Tryz.prog 34 #[v] w fun e w'=>e=.returned (.tuple #[.agg #[.int .u64 (coinB l),.int .u64 (seqB l)],.int .i64 (Rc.outR (Rc.stAccount l))])/\Below w.heap.size w w':=by
 obtain ⟨b,ao,c,rfl,h2⟩:=bya h.byt
 exact Rc.oAccount h2 hl
theorem put_acct {w:World} {x y:Int}:Calls Tryz.prog 50 #[.agg #[.int .u64 x,.int .u64 y]] w fun e w'=>∃ v,e=.returned v/\ByU w' v (pv x y)/\Below w.heap.size w w':=by
 refine Rc.PutAccount_any.mono ?_
 rintro e w' ⟨b,n,rfl,hn,X,hb,B⟩
 exact ⟨_,rfl,byu_box X (pv_oct x y) hn (Nat.le_trans (pv_len x y) (by decide)),B⟩
theorem aset {B:Nat} {w:World} {K:Nat->Prop} {g:Nat} {E:Ents} {W:List Ents} {n N:Nat} {kv vv:Value} {id x y:Int} (h:Sx B w K g E W n N) (hk:ByU w kv (ak id)) (hv:ByU w vv (pv x y)) (hn:n<=4000000000000000000) (hN:N + 2<=100000000) :
  Calls Tryz.prog 49 #[pg g,kv,vv] w (SxE B w K g (put E (ak id) (pv x y)) W (n + 1) (N + 2) (.int .i64 0)):=by
 have u:=xset h hk hv hn hN
 rw [set_ok,if_pos rfl] at u
 exact u
theorem Sx.getlen {B:Nat} {w:World} {K:Nat->Prop} {g:Nat} {E:Ents} {W:List Ents} {n N:Nat} (h:Sx B w K g E W n N) (k:List Int):((Kv.look E k).getD []).length<=1000000000:=by
 cases e:Kv.look E k with
 | none=>simp
 | some v=>exact (h.sa.small _ (Kv.look_mem e)).2
theorem rd8_rng {l:List Int} {err:Int} (ho:Octets l):0<=rdV 0 (pFix 8 l) err/\rdV 0 (pFix 8 l) err < 18446744073709551616:=by
 unfold rdV pFix
 split
 ·split
  ·exact ⟨Int.le_refl _,by decide⟩
  ·rename_i hh
   split at hh
   ·cases hh
    have:=bval_bound (l:=l.take 8) (fun x hx=>ho x (List.mem_of_mem_take hx))
    rw [List.length_take,Nat.min_eq_left (by assumption)] at this
    exact this
   ·cases hh
 ·exact ⟨Int.le_refl _,by decide⟩
theorem coinB_rng {l:List Int} (ho:Oct l):(0<=coinB l/\coinB l < 18446744073709551616)/\(0<=seqB l/\seqB l < 18446744073709551616):=by
 have h1:Octets (rdL (pFix 8 l) 0 l):=by
  unfold rdL
  split
  ·split
   ·exact ho
   ·exact fun x hx=>ho x (List.mem_of_mem_drop hx)
  ·exact ho
 have e:Rc.stAccount l=Rc.rnx 0 1 (Rc.rnx 0 0 (0,l,fun _=>0)):=rfl
 unfold coinB seqB Rc.outX
 rw [e]
 split
 ·exact ⟨rd8_rng (err:=0) ho,rd8_rng h1⟩
 ·exact ⟨⟨Int.le_refl _,by decide⟩,Int.le_refl _,by decide⟩
theorem SA.octv {w:World} {K D:Nat->Prop} {g n N:Nat} {E:Ents} {W:List Ents} (h:SA w K D g E W n N):∀ x∈E,Oct x.2:=by
 obtain ⟨F,V,m,Q,jv,T,oj,hX,rfl,hB⟩:=h.open
 obtain ⟨L,rfl,A,O,S,k,r⟩:=hX.map.ex
 intro x hx
 rw [abs_flat] at hx
 obtain ⟨e,he,rfl⟩:=List.mem_map.1 hx
 obtain ⟨es,h1,h2⟩:=List.mem_flatten.1 he
 obtain ⟨p,hp,rfl⟩:=List.mem_map.1 h1
 exact ((A.pages p hp).1.ents e h2).v.oct
theorem Sx.oct {B:Nat} {w:World} {K:Nat->Prop} {g:Nat} {E:Ents} {W:List Ents} {n N:Nat} (h:Sx B w K g E W n N) (k:List Int):Oct ((Kv.look E k).getD []):=by
 cases e:Kv.look E k with
 | none=>exact fun x hx=>by simp at hx
 | some v=>exact SA.octv h.sa _ (Kv.look_mem e)
theorem Sx.crng {B:Nat} {w:World} {K:Nat->Prop} {g:Nat} {E:Ents} {W:List Ents} {n N:Nat} (h:Sx B w K g E W n N) (id:Int):0<=coin E id/\coin E id < 18446744073709551616:=(coinB_rng (h.oct _)).1
theorem Sx.srng {B:Nat} {w:World} {K:Nat->Prop} {g:Nat} {E:Ents} {W:List Ents} {n N:Nat} (h:Sx B w K g E W n N) (id:Int):0<=seqn E id/\seqn E id < 18446744073709551616:=(coinB_rng (h.oct _)).2
theorem run_z {ρ:Operand->Value} {w:World} {o:Oper} {x y:Int} {b:Bool} (hb:decide (x=0/\y=0)=b) (ho:∃ u v,o.op=.binOp .eql 42 u v 42/\ρ u=.agg #[.int .u64 x,.int .u64 y]/\ρ v=.agg #[.int .u64 0,.int .u64 0]:=by exact ⟨_,_,rfl,by kernel_rfl,by kernel_rfl⟩):(execOp ρ o).run Tryz.prog w=.ok (.value (.bool b)) w:=by
 obtain ⟨u,v,h,h1,h2⟩:=ho
 subst hb
 simp only [execOp,h,h1,h2]
 go_simp
 repeat' split
 all_goals simp_all
theorem isAcc_any {w:World} {id:Int} {b:Bool} (hid:0<=id/\id < 18446744073709551616) (hb:decide (isA id)=b):Calls Tryz.prog 25 #[.int .u64 id] w fun e w'=>e=.returned (.bool b)/\Below w.heap.size w w':=by
 have BB:=Below.refl w.heap.size w
 refine gc_enter (n:=13) Tryz.func25 rfl (by kernel_rfl) (by kernel_rfl) ?_
 refine gc_seq ?_
 refine gc_reg ?_
 refine t 2 (.bool false) ?_
 refine gl_nil ?_
 refine ge_then ?_
 refine gc_seq ?_
 refine gc_reg ?_
 refine t 3 (.int .u64 id) ?_
 by_cases c1:(1:Int)<=id
 ·refine tq 4 (.bool (decide ((1:Int)<=id))) (.bool true) (congrArg Value.bool (decide_eq_true c1)) ?_
  refine t 5 (.bool true) ?_
  refine t 6 (.int .u64 id) ?_
  by_cases c2:(id:Int)<=4
  ·refine tq 7 (.bool (decide ((id:Int)<=4))) (.bool true) (congrArg Value.bool (decide_eq_true c2)) ?_
   refine t 8 (.bool true) ?_
   refine t 9 (.bool true) ?_
   refine tn 10 ?_
   refine tn 11 ?_
   refine t 12 (.bool true) ?_
   refine t 2 (.bool true) ?_
   refine gl_nil ?_
   refine ge_then ?_
   refine gc_fr [(2,.bool true)] (by kernel_rfl) ?_
   refine gc_ret ?_
   refine ge_ret (.bool true) (rs1 2 (by kernel_rfl) (by kernel_rfl)) ?_
   refine ⟨?_,BB⟩
   rw [<- hb]
   rw [decide_eq_true (by unfold isA; omega)]
  ·refine tq 7 (.bool (decide ((id:Int)<=4))) (.bool false) (congrArg Value.bool (decide_eq_false c2)) ?_
   refine t 8 (.bool false) ?_
   refine t 9 (.bool false) ?_
   refine t 10 (.int .u64 id) ?_
   by_cases c3:(16:Int)<=id
   ·refine tq 11 (.bool (decide ((16:Int)<=id))) (.bool true) (congrArg Value.bool (decide_eq_true c3)) ?_
    refine t 12 (.bool true) ?_
    refine t 2 (.bool true) ?_
    refine gl_nil ?_
    refine ge_then ?_
    refine gc_fr [(2,.bool true)] (by kernel_rfl) ?_
    refine gc_ret ?_
    refine ge_ret (.bool true) (rs1 2 (by kernel_rfl) (by kernel_rfl)) ?_
    refine ⟨?_,BB⟩
    rw [<- hb]
    rw [decide_eq_true (by unfold isA; omega)]
   ·refine tq 11 (.bool (decide ((16:Int)<=id))) (.bool false) (congrArg Value.bool (decide_eq_false c3)) ?_
    refine t 12 (.bool false) ?_
    refine t 2 (.bool false) ?_
    refine gl_nil ?_
    refine ge_then ?_
    refine gc_fr [(2,.bool false)] (by kernel_rfl) ?_
    refine gc_ret ?_
    refine ge_ret (.bool false) (rs1 2 (by kernel_rfl) (by kernel_rfl)) ?_
    refine ⟨?_,BB⟩
    rw [<- hb]
    rw [decide_eq_false (by unfold isA; omega)]
 ·refine tq 4 (.bool (decide ((1:Int)<=id))) (.bool false) (congrArg Value.bool (decide_eq_false c1)) ?_
  refine t 5 (.bool false) ?_
  refine tn 6 ?_
  refine tn 7 ?_
  refine t 8 (.bool false) ?_
  refine t 9 (.bool false) ?_
  refine t 10 (.int .u64 id) ?_
  by_cases c4:(16:Int)<=id
  ·refine tq 11 (.bool (decide ((16:Int)<=id))) (.bool true) (congrArg Value.bool (decide_eq_true c4)) ?_
   refine t 12 (.bool true) ?_
   refine t 2 (.bool true) ?_
   refine gl_nil ?_
   refine ge_then ?_
   refine gc_fr [(2,.bool true)] (by kernel_rfl) ?_
   refine gc_ret ?_
   refine ge_ret (.bool true) (rs1 2 (by kernel_rfl) (by kernel_rfl)) ?_
   refine ⟨?_,BB⟩
   rw [<- hb]
   rw [decide_eq_true (by unfold isA; omega)]
  ·refine tq 11 (.bool (decide ((16:Int)<=id))) (.bool false) (congrArg Value.bool (decide_eq_false c4)) ?_
   refine t 12 (.bool false) ?_
   refine t 2 (.bool false) ?_
   refine gl_nil ?_
   refine ge_then ?_
   refine gc_fr [(2,.bool false)] (by kernel_rfl) ?_
   refine gc_ret ?_
   refine ge_ret (.bool false) (rs1 2 (by kernel_rfl) (by kernel_rfl)) ?_
   refine ⟨?_,BB⟩
   rw [<- hb]
   rw [decide_eq_false (by unfold isA; omega)]
theorem holds_any {w:World} {x y k:Int} {b:Bool} (hx:0<=x/\x < 18446744073709551616) (hk:0<=k/\k < 18446744073709551616) (hb:decide (holdsP x k)=b):Calls Tryz.prog 26 #[.agg #[.int .u64 x,.int .u64 y],.int .u64 k] w fun e w'=>e=.returned (.bool b)/\Below w.heap.size w w':=by
 have BB:=Below.refl w.heap.size w
 refine gc_enter (n:=15) Tryz.func26 rfl (by kernel_rfl) (by kernel_rfl) ?_
 refine gc_seq ?_
 refine gc_reg ?_
 refine ta 2 [.int .u64 x,.int .u64 y] 42 (pg) ?_
 intro v1 g2 Xg2 hg2 B
 replace BB:=joinB BB B
 clear B
 refine t 4 (.bool false) ?_
 refine gl_nil ?_
 refine ge_then ?_
 refine gc_seq ?_
 refine gc_reg ?_
 refine t 5 (pg g2) ?_
 refine tl 6 (.int .u64 x) Xg2 0 ?_
 by_cases c3:(x:Int)<=1000000000000000000
 ·refine tq 7 (.bool (decide ((x:Int)<=1000000000000000000))) (.bool true) (congrArg Value.bool (decide_eq_true c3)) ?_
  refine t 8 (.bool true) ?_
  refine t 9 (.int .u64 k) ?_
  refine t 10 (pg g2) ?_
  refine tl 11 (.int .u64 x) Xg2 0 ?_
  refine tq 12 (.int .u64 (IntKind.u64.wrap (1000000000000000000 - x))) (.int .u64 (1000000000000000000 - x)) (wu (by omega)) ?_
  by_cases c4:(k:Int)<=1000000000000000000 - x
  ·refine tq 13 (.bool (decide ((k:Int)<=1000000000000000000 - x))) (.bool true) (congrArg Value.bool (decide_eq_true c4)) ?_
   refine t 14 (.bool true) ?_
   refine t 4 (.bool true) ?_
   refine gl_nil ?_
   refine ge_then ?_
   refine gc_fr [(4,.bool true)] (by kernel_rfl) ?_
   refine gc_ret ?_
   refine ge_ret (.bool true) (rs1 4 (by kernel_rfl) (by kernel_rfl)) ?_
   refine ⟨?_,BB⟩
   rw [<- hb]
   rw [decide_eq_true (by unfold holdsP; omega)]
  ·refine tq 13 (.bool (decide ((k:Int)<=1000000000000000000 - x))) (.bool false) (congrArg Value.bool (decide_eq_false c4)) ?_
   refine t 14 (.bool false) ?_
   refine t 4 (.bool false) ?_
   refine gl_nil ?_
   refine ge_then ?_
   refine gc_fr [(4,.bool false)] (by kernel_rfl) ?_
   refine gc_ret ?_
   refine ge_ret (.bool false) (rs1 4 (by kernel_rfl) (by kernel_rfl)) ?_
   refine ⟨?_,BB⟩
   rw [<- hb]
   rw [decide_eq_false (by unfold holdsP; omega)]
 ·refine tq 7 (.bool (decide ((x:Int)<=1000000000000000000))) (.bool false) (congrArg Value.bool (decide_eq_false c3)) ?_
  refine t 8 (.bool false) ?_
  refine tn 9 ?_
  refine tn 10 ?_
  refine tn 11 ?_
  refine tn 12 ?_
  refine tn 13 ?_
  refine t 14 (.bool false) ?_
  refine t 4 (.bool false) ?_
  refine gl_nil ?_
  refine ge_then ?_
  refine gc_fr [(4,.bool false)] (by kernel_rfl) ?_
  refine gc_ret ?_
  refine ge_ret (.bool false) (rs1 4 (by kernel_rfl) (by kernel_rfl)) ?_
  refine ⟨?_,BB⟩
  rw [<- hb]
  rw [decide_eq_false (by unfold holdsP; omega)]
theorem get_any {B:Nat} {w:World} {K:Nat->Prop} {g:Nat} {E:Ents} {W:List Ents} {n N:Nat} {id:Int} (h:Sx B w K g E W n N) (hid:0<=id/\id < 18446744073709551616) (hn:n + 5<=4000000000000000000) (hN:N + 5<=100000000):Calls Tryz.prog 14 #[pg g,.int .u64 id] w (SxE B w K g E W (n + 1) N (.agg #[.int .u64 (coin E id),.int .u64 (seqn E id)])):=by
 have A:=h.at
 refine gc_enter (n:=22) Tryz.func14 rfl (by kernel_rfl) (by kernel_rfl) ?_
 refine gc_seq ?_
 refine gc_reg ?_
 refine ta 4 [.int .u64 0,.int .u64 0] 42 (pg) ?_
 intro v1 g2 Xg2 hg2 B
 have zg2:=Nat.le_trans A.size hg2
 have nXg2:=A.new hg2
 replace A:=A.keep B
 clear B
 refine gl_nil ?_
 refine ge_then ?_
 refine gc_seq ?_
 refine gc_reg ?_
 refine t 10 (pg g) ?_
 refine t 11 (.int .u64 id) ?_
 refine tc 12 33 #[.int .u64 id] (key_any hid) ?_
 rintro _ v5 ⟨kv4,rfl,U3,B⟩
 refine ⟨_,rfl,?_⟩
 replace A:=A.keep B
 replace Xg2:=Xg2.keep B
 clear B
 refine tc 13 32 #[pg g,kv4] (xget A.sx U3 (by omega) (by omega)) ?_
 rintro _ v8 ⟨gv6,rfl,U7,S,hC⟩
 refine ⟨_,rfl,?_⟩
 replace Xg2:=Xg2.chg hC nXg2
 replace U3:=A.byu U3 hC
 replace A:=A.op S (fun _ h=>.inl h) hC
 clear S hC
 clear U3
 refine t 9 (.tuple #[gv6,.bool (Kv.look E (ak id)).isSome]) ?_
 refine t 14 (gv6) ?_
 refine t 15 (.bool (Kv.look E (ak id)).isSome) ?_
 refine t 5 (gv6) ?_
 refine t 6 (.bool (Kv.look E (ak id)).isSome) ?_
 refine gl_nil ?_
 refine ge_then ?_
 refine gc_fr [(4,pg g2),(5,gv6)] (by kernel_rfl) ?_
 refine gc_seq ?_
 refine gc_reg ?_
 refine t 17 (gv6) ?_
 refine tc 18 34 #[gv6] (acct_any U7 (A.sx.getlen _)) ?_
 rintro _ v9 ⟨rfl,B⟩
 refine ⟨_,rfl,?_⟩
 replace A:=A.keep B
 replace Xg2:=Xg2.keep B
 replace U7:=byu_keep U7 B
 clear B
 clear U7
 refine t 16 (.tuple #[.agg #[.int .u64 (coinB ((Kv.look E (ak id)).getD [])),.int .u64 (seqB ((Kv.look E (ak id)).getD []))],.int .i64 (Rc.outR (Rc.stAccount ((Kv.look E (ak id)).getD [])))]) ?_
 refine t 19 (.agg #[.int .u64 (coinB ((Kv.look E (ak id)).getD [])),.int .u64 (seqB ((Kv.look E (ak id)).getD []))]) ?_
 refine t 20 (.int .i64 (Rc.outR (Rc.stAccount ((Kv.look E (ak id)).getD [])))) ?_
 have lXg2:=Xg2.lt
 refine ta 7 [.int .u64 0,.int .u64 0] 42 (pg) ?_
 intro v10 g11 Xg11 hg11 B
 have zg11:=Nat.le_trans A.size hg11
 have nXg11:=A.new hg11
 replace A:=A.keep B
 replace Xg2:=Xg2.keep B
 clear B
 refine ts Xg11 0 (.agg #[.int .u64 (coinB ((Kv.look E (ak id)).getD [])),.int .u64 (seqB ((Kv.look E (ak id)).getD []))]) [.int .u64 (coinB ((Kv.look E (ak id)).getD [])),.int .u64 (seqB ((Kv.look E (ak id)).getD []))] [.int .u64 (coinB ((Kv.look E (ak id)).getD [])),.int .u64 (seqB ((Kv.look E (ak id)).getD []))] ?_
 intro v12 Y C
 replace A:=At.cell A Xg11 C zg11 nXg11 (by decide)
 replace Xg2:=Xg2.chg C (show g2≠g11 by omega)
 clear C Xg11
 have Xg11:=Y
 clear Y
 refine t 8 (.int .i64 (Rc.outR (Rc.stAccount ((Kv.look E (ak id)).getD [])))) ?_
 refine gl_nil ?_
 refine ge_then ?_
 refine gc_seq ?_
 refine gc_reg ?_
 refine tlr 21 [.int .u64 (coinB ((Kv.look E (ak id)).getD [])),.int .u64 (seqB ((Kv.look E (ak id)).getD []))] Xg11 0 ?_
 refine ts Xg2 0 (.agg #[.int .u64 (coinB ((Kv.look E (ak id)).getD [])),.int .u64 (seqB ((Kv.look E (ak id)).getD []))]) [.int .u64 (coinB ((Kv.look E (ak id)).getD [])),.int .u64 (seqB ((Kv.look E (ak id)).getD []))] [.int .u64 (coinB ((Kv.look E (ak id)).getD [])),.int .u64 (seqB ((Kv.look E (ak id)).getD []))] ?_
 intro v13 Y C
 replace A:=At.cell A Xg2 C zg2 nXg2 (by decide)
 replace Xg11:=Xg11.chg C (show g11≠g2 by omega)
 clear C Xg2
 have Xg2:=Y
 clear Y
 refine gl_nil ?_
 refine ge_then ?_
 refine gc_ret ?_
 refine ge_ret (.agg #[.int .u64 (coinB ((Kv.look E (ak id)).getD [])),.int .u64 (seqB ((Kv.look E (ak id)).getD []))]) (rsc 4 (T:=42) (by kernel_rfl) (by kernel_rfl) (lr Xg2 0)) ?_
 exact ⟨rfl,_,A.sx,A.km,A.cc⟩
theorem lay_any {B:Nat} {w:World} {K:Nat->Prop} {g:Nat} {E:Ents} {W:List Ents} {n N:Nat} {id x y:Int} (h:Sx B w K g E W n N) (hid:0<=id/\id < 18446744073709551616) (hn:n + 5<=4000000000000000000) (hN:N + 5<=100000000):Calls Tryz.prog 27 #[pg g,.int .u64 id,.agg #[.int .u64 x,.int .u64 y]] w (SxE B w K g (layE E id x y) W (n + 1) (N + 2) (.tuple #[])):=by
 have A:=h.at
 refine gc_enter (n:=19) Tryz.func27 rfl (by kernel_rfl) (by kernel_rfl) ?_
 refine gc_seq ?_
 refine gc_reg ?_
 refine ta 5 [.int .u64 x,.int .u64 y] 42 (pg) ?_
 intro v1 g2 Xg2 hg2 B
 have zg2:=Nat.le_trans A.size hg2
 have nXg2:=A.new hg2
 replace A:=A.keep B
 clear B
 refine gl_nil ?_
 refine ge_then ?_
 refine gc_seq ?_
 refine gc_seq ?_
 refine gc_reg ?_
 refine tlr 6 [.int .u64 x,.int .u64 y] Xg2 0 ?_
 refine t 7 (.agg #[.int .u64 0,.int .u64 0]) ?_
 by_cases c3:x=0/\y=0
 ·refine tr 8 (.bool true) (run_z (decide_eq_true c3)) ?_
  refine gl_nil ?_
  refine ge_then ?_
  refine gc_yes ?_
  refine gc_seq ?_
  refine gc_reg ?_
  refine t 9 (pg g) ?_
  refine t 10 (.int .u64 id) ?_
  refine tc 11 33 #[.int .u64 id] (key_any hid) ?_
  rintro _ v6 ⟨kv5,rfl,U4,B⟩
  refine ⟨_,rfl,?_⟩
  replace A:=A.keep B
  replace Xg2:=Xg2.keep B
  clear B
  refine tc 12 48 #[pg g,kv5] (xdel A.sx U4 (by have:=ak_len id; omega) (by omega) (by omega)) ?_
  rintro _ v8 ⟨rfl,K7,S,hK,hC⟩
  refine ⟨_,rfl,?_⟩
  have mXg2:=not_op Xg2 nXg2 hK
  replace Xg2:=Xg2.chg hC nXg2
  replace nXg2:=mXg2
  clear mXg2
  replace U4:=A.byu U4 hC
  replace A:=A.op S hK hC
  clear S hK hC
  clear U4
  refine gl_nil ?_
  refine ge_then ?_
  refine gc_ret ?_
  refine ge_tr ?_
  refine ge_ret (.tuple #[]) (rs0 (by kernel_rfl)) ?_
  rw [show layE E id x y=_ from if_pos c3]
  exact ⟨rfl,_,A.sx,A.km,A.cc⟩
 ·refine tr 8 (.bool false) (run_z (decide_eq_false c3)) ?_
  refine gl_nil ?_
  refine ge_then ?_
  refine gc_no ?_
  refine gc_skip ?_
  refine ge_then ?_
  replace A:=A.drew
  replace Xg2:=Xg2.drew
  refine gc_draw (fun w'=>Blk w' g2 [.int .u64 x,.int .u64 y] 42) (fun _=>false) Xg2 ?_
  refine z 0 13 (pg g) ?_
  refine z 1 14 (.int .u64 id) ?_
  refine zlr 3 16 [.int .u64 x,.int .u64 y] (fun _ h=>h) 0 ?_
  refine zc 2 15 33 #[.int .u64 id] (key_any hid) ?_
  rintro _ v11 ⟨kv10,rfl,U9,B⟩
  replace A:=A.keep B
  replace Xg2:=Xg2.keep B
  clear B
  refine ⟨_,rfl,Xg2,?_⟩
  refine zc 4 17 50 #[.agg #[.int .u64 x,.int .u64 y]] (put_acct) ?_
  rintro _ v14 ⟨pv13,rfl,U12,B⟩
  replace A:=A.keep B
  replace Xg2:=Xg2.keep B
  replace U9:=byu_keep U9 B
  clear B
  refine ⟨_,rfl,Xg2,?_⟩
  refine zc 5 18 49 #[pg g,kv10,pv13] (aset A.sx U9 U12 (by omega) (by omega)) ?_
  rintro _ v16 ⟨rfl,K15,S,hK,hC⟩
  have mXg2:=not_op Xg2 nXg2 hK
  replace Xg2:=Xg2.chg hC nXg2
  replace nXg2:=mXg2
  clear mXg2
  replace U9:=A.byu U9 hC
  replace U12:=A.byu U12 hC
  replace A:=A.op S hK hC
  clear S hK hC
  clear U9
  clear U12
  refine ⟨_,rfl,Xg2,?_⟩
  refine gz_done ?_
  refine ge_end (.tuple #[]) (rs0 (by kernel_rfl)) ?_
  rw [show layE E id x y=_ from if_neg c3]
  exact ⟨rfl,_,A.sx,A.km,A.cc⟩
def mintR (E:Ents) (id k:Int):Int:=if ¬ isA id then 92 else if ¬ holdsP (coin E id) k then 91 else 0
def mintE (E:Ents) (id k:Int):Ents:=if mintR E id k=0 then layE E id (coin E id + k) (seqn E id) else E
def moveR (E:Ents) (a b k:Int):Int:=if ¬ isA a\/¬ isA b then 92 else if coin E a < k then 90 else if a=b then 0 else if ¬ holdsP (coin E b) k then 91 else 0
def moveE (E:Ents) (a b k:Int):Ents:=if moveR E a b k=0/\a≠b then layE (layE E a (coin E a - k) (seqn E a)) b (coin E b + k) (seqn E b) else E
def bumpR (id:Int):Int:=if ¬ isA id then 92 else 0
def bumpE (E:Ents) (id:Int):Ents:=if isA id then layE E id (coin E id) ((seqn E id + 1) % 18446744073709551616) else E
theorem mint_any {B:Nat} {w:World} {K:Nat->Prop} {g:Nat} {E:Ents} {W:List Ents} {n N:Nat} {id k:Int} (h:Sx B w K g E W n N) (hid:0<=id/\id < 18446744073709551616) (hk:0<=k/\k < 18446744073709551616) (hn:n + 10<=4000000000000000000) (hN:N + 10<=100000000):Calls Tryz.prog 8 #[pg g,.int .u64 id,.int .u64 k] w (SxF B w K g (mintE E id k) W n N (.int .i64 (mintR E id k))):=by
 have A:=h.at
 refine gc_enter (n:=27) Tryz.func8 rfl (by kernel_rfl) (by kernel_rfl) ?_
 refine gc_seq ?_
 refine gc_reg ?_
 refine t 6 (.int .i64 0) ?_
 refine gl_nil ?_
 refine ge_then ?_
 refine gc_seq ?_
 refine gc_seq ?_
 refine gc_reg ?_
 refine t 8 (.int .u64 id) ?_
 by_cases c1:isA id
 ·refine tc 9 25 #[.int .u64 id] (isAcc_any hid (decide_eq_true c1)) ?_
  rintro _ v2 ⟨rfl,B⟩
  refine ⟨_,rfl,?_⟩
  replace A:=A.keep B
  clear B
  refine t 10 (.bool false) ?_
  refine gl_nil ?_
  refine ge_then ?_
  refine gc_no ?_
  refine gc_skip ?_
  refine ge_then ?_
  refine gc_seq ?_
  refine gc_reg ?_
  refine t 11 (pg g) ?_
  refine t 12 (.int .u64 id) ?_
  refine tc 13 14 #[pg g,.int .u64 id] (get_any A.sx hid (by omega) (by omega)) ?_
  rintro _ v4 ⟨rfl,K3,S,hK,hC⟩
  refine ⟨_,rfl,?_⟩
  replace A:=A.op S hK hC
  clear S hK hC
  refine ta 7 [.int .u64 0,.int .u64 0] 42 (pg) ?_
  intro v5 g6 Xg6 hg6 B
  have zg6:=Nat.le_trans A.size hg6
  have nXg6:=A.new hg6
  replace A:=A.keep B
  clear B
  refine ts Xg6 0 (.agg #[.int .u64 (coin E id),.int .u64 (seqn E id)]) [.int .u64 (coin E id),.int .u64 (seqn E id)] [.int .u64 (coin E id),.int .u64 (seqn E id)] ?_
  intro v7 Y C
  replace A:=At.cell A Xg6 C zg6 nXg6 (by decide)
  clear C Xg6
  have Xg6:=Y
  clear Y
  refine gl_nil ?_
  refine ge_then ?_
  refine gc_seq ?_
  refine gc_seq ?_
  refine gc_reg ?_
  refine tlr 14 [.int .u64 (coin E id),.int .u64 (seqn E id)] Xg6 0 ?_
  refine t 15 (.int .u64 k) ?_
  by_cases c8:holdsP (coin E id) k
  ·refine tc 16 26 #[.agg #[.int .u64 (coin E id),.int .u64 (seqn E id)],.int .u64 k] (holds_any (h.crng _) hk (decide_eq_true c8)) ?_
   rintro _ v9 ⟨rfl,B⟩
   refine ⟨_,rfl,?_⟩
   replace A:=A.keep B
   replace Xg6:=Xg6.keep B
   clear B
   refine t 17 (.bool false) ?_
   refine gl_nil ?_
   refine ge_then ?_
   refine gc_fr [(0,pg g),(1,.int .u64 id),(2,.int .u64 k),(6,.int .i64 0),(7,pg g6),(17,.bool false)] (by kernel_rfl) ?_
   refine gc_no ?_
   refine gc_skip ?_
   refine ge_then ?_
   refine gc_seq ?_
   refine gc_reg ?_
   refine t 18 (pg g6) ?_
   refine tl 19 (.int .u64 (coin E id)) Xg6 0 ?_
   refine t 20 (.int .u64 k) ?_
   refine tq 21 (.int .u64 (IntKind.u64.wrap ((coin E id) + k))) (.int .u64 ((coin E id) + k)) (wu (by have:=h.crng id; have q:=c8; unfold holdsP at q; omega)) ?_
   refine t 22 (pg g6) ?_
   refine ts Xg6 0 (.int .u64 ((coin E id) + k)) [.int .u64 ((coin E id) + k)] [.int .u64 ((coin E id) + k),.int .u64 (seqn E id)] ?_
   intro v10 Y C
   replace A:=At.cell A Xg6 C zg6 nXg6 (by decide)
   clear C Xg6
   have Xg6:=Y
   clear Y
   refine gl_nil ?_
   refine ge_then ?_
   refine gc_seq ?_
   refine gc_reg ?_
   refine t 23 (pg g) ?_
   refine t 24 (.int .u64 id) ?_
   refine tlr 25 [.int .u64 ((coin E id) + k),.int .u64 (seqn E id)] Xg6 0 ?_
   refine tc 26 27 #[pg g,.int .u64 id,.agg #[.int .u64 ((coin E id) + k),.int .u64 (seqn E id)]] (lay_any A.sx hid (by omega) (by omega)) ?_
   rintro _ v12 ⟨rfl,K11,S,hK,hC⟩
   refine ⟨_,rfl,?_⟩
   have mXg6:=not_op Xg6 nXg6 hK
   replace Xg6:=Xg6.chg hC nXg6
   replace nXg6:=mXg6
   clear mXg6
   replace A:=A.op S hK hC
   clear S hK hC
   refine gl_nil ?_
   refine ge_then ?_
   refine gc_seq ?_
   refine gc_reg ?_
   refine t 6 (.int .i64 0) ?_
   refine gl_nil ?_
   refine ge_then ?_
   refine gc_ret ?_
   refine ge_ret (.int .i64 0) (rs1 6 (by kernel_rfl) (by kernel_rfl)) ?_
   have e1:mintR E id k=0:=by first | (simp [mintR,c1,c8]; done) | (subst_vars; simp_all [mintR])
   have e2:mintE E id k=layE E id ((coin E id) + k) (seqn E id):=by simp [mintE,e1,c1,c8]
   rw [e1,e2]
   exact ⟨rfl,_,_,_,A.sx,by omega,by omega,A.km,A.cc⟩
  ·refine tc 16 26 #[.agg #[.int .u64 (coin E id),.int .u64 (seqn E id)],.int .u64 k] (holds_any (h.crng _) hk (decide_eq_false c8)) ?_
   rintro _ v13 ⟨rfl,B⟩
   refine ⟨_,rfl,?_⟩
   replace A:=A.keep B
   replace Xg6:=Xg6.keep B
   clear B
   refine t 17 (.bool true) ?_
   refine gl_nil ?_
   refine ge_then ?_
   refine gc_fr [(0,pg g),(1,.int .u64 id),(2,.int .u64 k),(6,.int .i64 0),(7,pg g6),(17,.bool true)] (by kernel_rfl) ?_
   refine gc_yes ?_
   refine gc_seq ?_
   refine gc_reg ?_
   refine t 6 (.int .i64 91) ?_
   refine gl_nil ?_
   refine ge_then ?_
   refine gc_ret ?_
   refine ge_tr ?_
   refine ge_ret (.int .i64 91) (rs1 6 (by kernel_rfl) (by kernel_rfl)) ?_
   have e1:mintR E id k=91:=by first | (simp [mintR,c1,c8]; done) | (subst_vars; simp_all [mintR])
   have e2:mintE E id k=E:=by simp [mintE,e1,c1,c8]
   rw [e1,e2]
   exact ⟨rfl,_,_,_,A.sx,by omega,by omega,A.km,A.cc⟩
 ·refine tc 9 25 #[.int .u64 id] (isAcc_any hid (decide_eq_false c1)) ?_
  rintro _ v14 ⟨rfl,B⟩
  refine ⟨_,rfl,?_⟩
  replace A:=A.keep B
  clear B
  refine t 10 (.bool true) ?_
  refine gl_nil ?_
  refine ge_then ?_
  refine gc_yes ?_
  refine gc_seq ?_
  refine gc_reg ?_
  refine t 6 (.int .i64 92) ?_
  refine gl_nil ?_
  refine ge_then ?_
  refine gc_ret ?_
  refine ge_tr ?_
  refine ge_ret (.int .i64 92) (rs1 6 (by kernel_rfl) (by kernel_rfl)) ?_
  have e1:mintR E id k=92:=by first | (simp [mintR,c1]; done) | (subst_vars; simp_all [mintR])
  have e2:mintE E id k=E:=by simp [mintE,e1,c1]
  rw [e1,e2]
  exact ⟨rfl,_,_,_,A.sx,by omega,by omega,A.km,A.cc⟩
theorem move_any {B:Nat} {w:World} {K:Nat->Prop} {g:Nat} {E:Ents} {W:List Ents} {n N:Nat} {a b k:Int} (h:Sx B w K g E W n N) (ha:0<=a/\a < 18446744073709551616) (hb:0<=b/\b < 18446744073709551616) (hk:0<=k/\k < 18446744073709551616) (hn:n + 10<=4000000000000000000) (hN:N + 10<=100000000):Calls Tryz.prog 10 #[pg g,.int .u64 a,.int .u64 b,.int .u64 k] w (SxF B w K g (moveE E a b k) W n N (.int .i64 (moveR E a b k))):=by
 have A:=h.at
 refine gc_enter (n:=54) Tryz.func10 rfl (by kernel_rfl) (by kernel_rfl) ?_
 refine gc_seq ?_
 refine gc_reg ?_
 refine t 8 (.int .i64 0) ?_
 refine gl_nil ?_
 refine ge_then ?_
 refine gc_seq ?_
 refine gc_seq ?_
 refine gc_reg ?_
 refine t 11 (.int .u64 a) ?_
 by_cases c1:isA a
 ·refine tc 12 25 #[.int .u64 a] (isAcc_any ha (decide_eq_true c1)) ?_
  rintro _ v2 ⟨rfl,B⟩
  refine ⟨_,rfl,?_⟩
  replace A:=A.keep B
  clear B
  refine t 13 (.bool false) ?_
  refine t 14 (.bool false) ?_
  refine t 15 (.int .u64 b) ?_
  by_cases c3:isA b
  ·refine tc 16 25 #[.int .u64 b] (isAcc_any hb (decide_eq_true c3)) ?_
   rintro _ v4 ⟨rfl,B⟩
   refine ⟨_,rfl,?_⟩
   replace A:=A.keep B
   clear B
   refine t 17 (.bool false) ?_
   refine t 18 (.bool false) ?_
   refine gl_nil ?_
   refine ge_then ?_
   refine gc_fr [(0,pg g),(1,.int .u64 a),(2,.int .u64 b),(3,.int .u64 k),(8,.int .i64 0),(18,.bool false)] (by kernel_rfl) ?_
   refine gc_no ?_
   refine gc_skip ?_
   refine ge_then ?_
   refine gc_seq ?_
   refine gc_reg ?_
   refine t 19 (pg g) ?_
   refine t 20 (.int .u64 a) ?_
   refine tc 21 14 #[pg g,.int .u64 a] (get_any A.sx ha (by omega) (by omega)) ?_
   rintro _ v6 ⟨rfl,K5,S,hK,hC⟩
   refine ⟨_,rfl,?_⟩
   replace A:=A.op S hK hC
   clear S hK hC
   refine ta 9 [.int .u64 0,.int .u64 0] 42 (pg) ?_
   intro v7 g8 Xg8 hg8 B
   have zg8:=Nat.le_trans A.size hg8
   have nXg8:=A.new hg8
   replace A:=A.keep B
   clear B
   refine ts Xg8 0 (.agg #[.int .u64 (coin E a),.int .u64 (seqn E a)]) [.int .u64 (coin E a),.int .u64 (seqn E a)] [.int .u64 (coin E a),.int .u64 (seqn E a)] ?_
   intro v9 Y C
   replace A:=At.cell A Xg8 C zg8 nXg8 (by decide)
   clear C Xg8
   have Xg8:=Y
   clear Y
   refine gl_nil ?_
   refine ge_then ?_
   refine gc_seq ?_
   refine gc_seq ?_
   refine gc_reg ?_
   refine t 22 (pg g8) ?_
   refine tl 23 (.int .u64 (coin E a)) Xg8 0 ?_
   refine t 24 (.int .u64 k) ?_
   by_cases c10:(coin E a:Int) < k
   ·refine tq 25 (.bool (decide ((coin E a:Int) < k))) (.bool true) (congrArg Value.bool (decide_eq_true c10)) ?_
    refine gl_nil ?_
    refine ge_then ?_
    refine gc_yes ?_
    refine gc_seq ?_
    refine gc_reg ?_
    refine t 8 (.int .i64 90) ?_
    refine gl_nil ?_
    refine ge_then ?_
    refine gc_ret ?_
    refine ge_tr ?_
    refine ge_ret (.int .i64 90) (rs1 8 (by kernel_rfl) (by kernel_rfl)) ?_
    have e1:moveR E a b k=90:=by first | (simp [moveR,c1,c10,c3]; done) | (subst_vars; simp_all [moveR])
    have e2:moveE E a b k=E:=by simp [moveE,e1,c1,c10,c3]
    rw [e1,e2]
    exact ⟨rfl,_,_,_,A.sx,by omega,by omega,A.km,A.cc⟩
   ·refine tq 25 (.bool (decide ((coin E a:Int) < k))) (.bool false) (congrArg Value.bool (decide_eq_false c10)) ?_
    refine gl_nil ?_
    refine ge_then ?_
    refine gc_no ?_
    refine gc_skip ?_
    refine ge_then ?_
    refine gc_seq ?_
    refine gc_seq ?_
    refine gc_reg ?_
    refine t 26 (.int .u64 a) ?_
    refine t 27 (.int .u64 b) ?_
    by_cases c11:(a:Int)=b
    ·refine tq 28 (.bool ((a:Int) == b)) (.bool true) (congrArg Value.bool (beq_iff_eq.2 c11)) ?_
     refine gl_nil ?_
     refine ge_then ?_
     refine gc_yes ?_
     refine gc_seq ?_
     refine gc_reg ?_
     refine t 8 (.int .i64 0) ?_
     refine gl_nil ?_
     refine ge_then ?_
     refine gc_fr [(0,pg g),(1,.int .u64 a),(2,.int .u64 b),(3,.int .u64 k),(8,.int .i64 0),(9,pg g8)] (by kernel_rfl) ?_
     refine gc_ret ?_
     refine ge_tr ?_
     refine ge_ret (.int .i64 0) (rs1 8 (by kernel_rfl) (by kernel_rfl)) ?_
     have e1:moveR E a b k=0:=by first | (simp [moveR,c1,c10,c11,c3]; done) | (subst_vars; simp_all [moveR])
     have e2:moveE E a b k=E:=by simp [moveE,e1,c1,c10,c11,c3]
     rw [e1,e2]
     exact ⟨rfl,_,_,_,A.sx,by omega,by omega,A.km,A.cc⟩
    ·refine tq 28 (.bool ((a:Int) == b)) (.bool false) (congrArg Value.bool (beq_eq_false_iff_ne.2 c11)) ?_
     refine gl_nil ?_
     refine ge_then ?_
     refine gc_no ?_
     refine gc_skip ?_
     refine ge_then ?_
     refine gc_seq ?_
     refine gc_reg ?_
     refine t 29 (pg g) ?_
     refine t 30 (.int .u64 b) ?_
     refine tc 31 14 #[pg g,.int .u64 b] (get_any A.sx hb (by omega) (by omega)) ?_
     rintro _ v13 ⟨rfl,K12,S,hK,hC⟩
     refine ⟨_,rfl,?_⟩
     have mXg8:=not_op Xg8 nXg8 hK
     replace Xg8:=Xg8.chg hC nXg8
     replace nXg8:=mXg8
     clear mXg8
     replace A:=A.op S hK hC
     clear S hK hC
     have lXg8:=Xg8.lt
     refine ta 10 [.int .u64 0,.int .u64 0] 42 (pg) ?_
     intro v14 g15 Xg15 hg15 B
     have zg15:=Nat.le_trans A.size hg15
     have nXg15:=A.new hg15
     replace A:=A.keep B
     replace Xg8:=Xg8.keep B
     clear B
     refine ts Xg15 0 (.agg #[.int .u64 (coin E b),.int .u64 (seqn E b)]) [.int .u64 (coin E b),.int .u64 (seqn E b)] [.int .u64 (coin E b),.int .u64 (seqn E b)] ?_
     intro v16 Y C
     replace A:=At.cell A Xg15 C zg15 nXg15 (by decide)
     replace Xg8:=Xg8.chg C (show g8≠g15 by omega)
     clear C Xg15
     have Xg15:=Y
     clear Y
     refine gl_nil ?_
     refine ge_then ?_
     refine gc_fr [(0,pg g),(1,.int .u64 a),(2,.int .u64 b),(3,.int .u64 k),(8,.int .i64 0),(9,pg g8),(10,pg g15)] (by kernel_rfl) ?_
     refine gc_seq ?_
     refine gc_seq ?_
     refine gc_reg ?_
     refine tlr 32 [.int .u64 (coin E b),.int .u64 (seqn E b)] Xg15 0 ?_
     refine t 33 (.int .u64 k) ?_
     by_cases c17:holdsP (coin E b) k
     ·refine tc 34 26 #[.agg #[.int .u64 (coin E b),.int .u64 (seqn E b)],.int .u64 k] (holds_any (h.crng _) hk (decide_eq_true c17)) ?_
      rintro _ v18 ⟨rfl,B⟩
      refine ⟨_,rfl,?_⟩
      replace A:=A.keep B
      replace Xg8:=Xg8.keep B
      replace Xg15:=Xg15.keep B
      clear B
      refine t 35 (.bool false) ?_
      refine gl_nil ?_
      refine ge_then ?_
      refine gc_no ?_
      refine gc_skip ?_
      refine ge_then ?_
      refine gc_seq ?_
      refine gc_reg ?_
      refine t 36 (pg g8) ?_
      refine tl 37 (.int .u64 (coin E a)) Xg8 0 ?_
      refine t 38 (.int .u64 k) ?_
      refine tq 39 (.int .u64 (IntKind.u64.wrap ((coin E a) - k))) (.int .u64 ((coin E a) - k)) (wu (by have:=h.crng a; have:=h.crng b; have q:=c17; unfold holdsP at q; omega)) ?_
      refine t 40 (pg g8) ?_
      refine ts Xg8 0 (.int .u64 ((coin E a) - k)) [.int .u64 ((coin E a) - k)] [.int .u64 ((coin E a) - k),.int .u64 (seqn E a)] ?_
      intro v19 Y C
      replace A:=At.cell A Xg8 C zg8 nXg8 (by decide)
      replace Xg15:=Xg15.chg C (show g15≠g8 by omega)
      clear C Xg8
      have Xg8:=Y
      clear Y
      refine gl_nil ?_
      refine ge_then ?_
      refine gc_seq ?_
      refine gc_reg ?_
      refine t 41 (pg g15) ?_
      refine tl 42 (.int .u64 (coin E b)) Xg15 0 ?_
      refine t 43 (.int .u64 k) ?_
      refine tq 44 (.int .u64 (IntKind.u64.wrap ((coin E b) + k))) (.int .u64 ((coin E b) + k)) (wu (by have:=h.crng a; have:=h.crng b; have q:=c17; unfold holdsP at q; omega)) ?_
      refine t 45 (pg g15) ?_
      refine ts Xg15 0 (.int .u64 ((coin E b) + k)) [.int .u64 ((coin E b) + k)] [.int .u64 ((coin E b) + k),.int .u64 (seqn E b)] ?_
      intro v20 Y C
      replace A:=At.cell A Xg15 C zg15 nXg15 (by decide)
      replace Xg8:=Xg8.chg C (show g8≠g15 by omega)
      clear C Xg15
      have Xg15:=Y
      clear Y
      refine gl_nil ?_
      refine ge_then ?_
      refine gc_fr [(0,pg g),(1,.int .u64 a),(2,.int .u64 b),(8,.int .i64 0),(9,pg g8),(10,pg g15)] (by kernel_rfl) ?_
      refine gc_seq ?_
      refine gc_reg ?_
      refine t 46 (pg g) ?_
      refine t 47 (.int .u64 a) ?_
      refine tlr 48 [.int .u64 ((coin E a) - k),.int .u64 (seqn E a)] Xg8 0 ?_
      refine tc 49 27 #[pg g,.int .u64 a,.agg #[.int .u64 ((coin E a) - k),.int .u64 (seqn E a)]] (lay_any A.sx ha (by omega) (by omega)) ?_
      rintro _ v22 ⟨rfl,K21,S,hK,hC⟩
      refine ⟨_,rfl,?_⟩
      have mXg8:=not_op Xg8 nXg8 hK
      replace Xg8:=Xg8.chg hC nXg8
      replace nXg8:=mXg8
      clear mXg8
      have mXg15:=not_op Xg15 nXg15 hK
      replace Xg15:=Xg15.chg hC nXg15
      replace nXg15:=mXg15
      clear mXg15
      replace A:=A.op S hK hC
      clear S hK hC
      refine gl_nil ?_
      refine ge_then ?_
      refine gc_seq ?_
      refine gc_reg ?_
      refine t 50 (pg g) ?_
      refine t 51 (.int .u64 b) ?_
      refine tlr 52 [.int .u64 ((coin E b) + k),.int .u64 (seqn E b)] Xg15 0 ?_
      refine tc 53 27 #[pg g,.int .u64 b,.agg #[.int .u64 ((coin E b) + k),.int .u64 (seqn E b)]] (lay_any A.sx hb (by omega) (by omega)) ?_
      rintro _ v24 ⟨rfl,K23,S,hK,hC⟩
      refine ⟨_,rfl,?_⟩
      have mXg8:=not_op Xg8 nXg8 hK
      replace Xg8:=Xg8.chg hC nXg8
      replace nXg8:=mXg8
      clear mXg8
      have mXg15:=not_op Xg15 nXg15 hK
      replace Xg15:=Xg15.chg hC nXg15
      replace nXg15:=mXg15
      clear mXg15
      replace A:=A.op S hK hC
      clear S hK hC
      refine gl_nil ?_
      refine ge_then ?_
      refine gc_seq ?_
      refine gc_reg ?_
      refine t 8 (.int .i64 0) ?_
      refine gl_nil ?_
      refine ge_then ?_
      refine gc_ret ?_
      refine ge_ret (.int .i64 0) (rs1 8 (by kernel_rfl) (by kernel_rfl)) ?_
      have e1:moveR E a b k=0:=by first | (simp [moveR,c1,c10,c11,c17,c3]; done) | (subst_vars; simp_all [moveR])
      have e2:moveE E a b k=layE (layE E a ((coin E a) - k) (seqn E a)) b ((coin E b) + k) (seqn E b):=by simp [moveE,e1,c1,c10,c11,c17,c3]
      rw [e1,e2]
      exact ⟨rfl,_,_,_,A.sx,by omega,by omega,A.km,A.cc⟩
     ·refine tc 34 26 #[.agg #[.int .u64 (coin E b),.int .u64 (seqn E b)],.int .u64 k] (holds_any (h.crng _) hk (decide_eq_false c17)) ?_
      rintro _ v25 ⟨rfl,B⟩
      refine ⟨_,rfl,?_⟩
      replace A:=A.keep B
      replace Xg8:=Xg8.keep B
      replace Xg15:=Xg15.keep B
      clear B
      refine t 35 (.bool true) ?_
      refine gl_nil ?_
      refine ge_then ?_
      refine gc_yes ?_
      refine gc_seq ?_
      refine gc_reg ?_
      refine t 8 (.int .i64 91) ?_
      refine gl_nil ?_
      refine ge_then ?_
      refine gc_ret ?_
      refine ge_tr ?_
      refine ge_ret (.int .i64 91) (rs1 8 (by kernel_rfl) (by kernel_rfl)) ?_
      have e1:moveR E a b k=91:=by first | (simp [moveR,c1,c10,c11,c17,c3]; done) | (subst_vars; simp_all [moveR])
      have e2:moveE E a b k=E:=by simp [moveE,e1,c1,c10,c11,c17,c3]
      rw [e1,e2]
      exact ⟨rfl,_,_,_,A.sx,by omega,by omega,A.km,A.cc⟩
  ·refine tc 16 25 #[.int .u64 b] (isAcc_any hb (decide_eq_false c3)) ?_
   rintro _ v26 ⟨rfl,B⟩
   refine ⟨_,rfl,?_⟩
   replace A:=A.keep B
   clear B
   refine t 17 (.bool true) ?_
   refine t 18 (.bool true) ?_
   refine gl_nil ?_
   refine ge_then ?_
   refine gc_fr [(0,pg g),(1,.int .u64 a),(2,.int .u64 b),(3,.int .u64 k),(8,.int .i64 0),(18,.bool true)] (by kernel_rfl) ?_
   refine gc_yes ?_
   refine gc_seq ?_
   refine gc_reg ?_
   refine t 8 (.int .i64 92) ?_
   refine gl_nil ?_
   refine ge_then ?_
   refine gc_ret ?_
   refine ge_tr ?_
   refine ge_ret (.int .i64 92) (rs1 8 (by kernel_rfl) (by kernel_rfl)) ?_
   have e1:moveR E a b k=92:=by first | (simp [moveR,c1,c3]; done) | (subst_vars; simp_all [moveR])
   have e2:moveE E a b k=E:=by simp [moveE,e1,c1,c3]
   rw [e1,e2]
   exact ⟨rfl,_,_,_,A.sx,by omega,by omega,A.km,A.cc⟩
 ·refine tc 12 25 #[.int .u64 a] (isAcc_any ha (decide_eq_false c1)) ?_
  rintro _ v27 ⟨rfl,B⟩
  refine ⟨_,rfl,?_⟩
  replace A:=A.keep B
  clear B
  refine t 13 (.bool true) ?_
  refine t 14 (.bool true) ?_
  refine tn 15 ?_
  refine tn 16 ?_
  refine tn 17 ?_
  refine t 18 (.bool true) ?_
  refine gl_nil ?_
  refine ge_then ?_
  refine gc_fr [(0,pg g),(1,.int .u64 a),(2,.int .u64 b),(3,.int .u64 k),(8,.int .i64 0),(18,.bool true)] (by kernel_rfl) ?_
  refine gc_yes ?_
  refine gc_seq ?_
  refine gc_reg ?_
  refine t 8 (.int .i64 92) ?_
  refine gl_nil ?_
  refine ge_then ?_
  refine gc_ret ?_
  refine ge_tr ?_
  refine ge_ret (.int .i64 92) (rs1 8 (by kernel_rfl) (by kernel_rfl)) ?_
  have e1:moveR E a b k=92:=by first | (simp [moveR,c1]; done) | (subst_vars; simp_all [moveR])
  have e2:moveE E a b k=E:=by simp [moveE,e1,c1]
  rw [e1,e2]
  exact ⟨rfl,_,_,_,A.sx,by omega,by omega,A.km,A.cc⟩
theorem bump_any {B:Nat} {w:World} {K:Nat->Prop} {g:Nat} {E:Ents} {W:List Ents} {n N:Nat} {id:Int} (h:Sx B w K g E W n N) (hid:0<=id/\id < 18446744073709551616) (hn:n + 10<=4000000000000000000) (hN:N + 10<=100000000):Calls Tryz.prog 12 #[pg g,.int .u64 id] w (SxF B w K g (bumpE E id) W n N (.int .i64 (bumpR id))):=by
 have A:=h.at
 refine gc_enter (n:=20) Tryz.func12 rfl (by kernel_rfl) (by kernel_rfl) ?_
 refine gc_seq ?_
 refine gc_reg ?_
 refine t 4 (.int .i64 0) ?_
 refine gl_nil ?_
 refine ge_then ?_
 refine gc_seq ?_
 refine gc_seq ?_
 refine gc_reg ?_
 refine t 6 (.int .u64 id) ?_
 by_cases c1:isA id
 ·refine tc 7 25 #[.int .u64 id] (isAcc_any hid (decide_eq_true c1)) ?_
  rintro _ v2 ⟨rfl,B⟩
  refine ⟨_,rfl,?_⟩
  replace A:=A.keep B
  clear B
  refine t 8 (.bool false) ?_
  refine gl_nil ?_
  refine ge_then ?_
  refine gc_no ?_
  refine gc_skip ?_
  refine ge_then ?_
  refine gc_seq ?_
  refine gc_reg ?_
  refine t 9 (pg g) ?_
  refine t 10 (.int .u64 id) ?_
  refine tc 11 14 #[pg g,.int .u64 id] (get_any A.sx hid (by omega) (by omega)) ?_
  rintro _ v4 ⟨rfl,K3,S,hK,hC⟩
  refine ⟨_,rfl,?_⟩
  replace A:=A.op S hK hC
  clear S hK hC
  refine ta 5 [.int .u64 0,.int .u64 0] 42 (pg) ?_
  intro v5 g6 Xg6 hg6 B
  have zg6:=Nat.le_trans A.size hg6
  have nXg6:=A.new hg6
  replace A:=A.keep B
  clear B
  refine ts Xg6 0 (.agg #[.int .u64 (coin E id),.int .u64 (seqn E id)]) [.int .u64 (coin E id),.int .u64 (seqn E id)] [.int .u64 (coin E id),.int .u64 (seqn E id)] ?_
  intro v7 Y C
  replace A:=At.cell A Xg6 C zg6 nXg6 (by decide)
  clear C Xg6
  have Xg6:=Y
  clear Y
  refine gl_nil ?_
  refine ge_then ?_
  refine gc_seq ?_
  refine gc_reg ?_
  refine t 12 (pq g6 1) ?_
  refine tl 13 (.int .u64 (seqn E id)) Xg6 1 ?_
  refine tq 14 (.int .u64 (IntKind.u64.wrap (seqn E id + 1))) (.int .u64 ((seqn E id + 1) % 18446744073709551616)) (congrArg (Value.int .u64) (IntKind.wrap_u64 _)) ?_
  refine t 15 (pq g6 1) ?_
  refine ts Xg6 1 (.int .u64 ((seqn E id + 1) % 18446744073709551616)) [.int .u64 ((seqn E id + 1) % 18446744073709551616)] [.int .u64 (coin E id),.int .u64 ((seqn E id + 1) % 18446744073709551616)] ?_
  intro v8 Y C
  replace A:=At.cell A Xg6 C zg6 nXg6 (by decide)
  clear C Xg6
  have Xg6:=Y
  clear Y
  refine gl_nil ?_
  refine ge_then ?_
  refine gc_fr [(0,pg g),(1,.int .u64 id),(4,.int .i64 0),(5,pg g6)] (by kernel_rfl) ?_
  refine gc_seq ?_
  refine gc_reg ?_
  refine t 16 (pg g) ?_
  refine t 17 (.int .u64 id) ?_
  refine tlr 18 [.int .u64 (coin E id),.int .u64 ((seqn E id + 1) % 18446744073709551616)] Xg6 0 ?_
  refine tc 19 27 #[pg g,.int .u64 id,.agg #[.int .u64 (coin E id),.int .u64 ((seqn E id + 1) % 18446744073709551616)]] (lay_any A.sx hid (by omega) (by omega)) ?_
  rintro _ v10 ⟨rfl,K9,S,hK,hC⟩
  refine ⟨_,rfl,?_⟩
  have mXg6:=not_op Xg6 nXg6 hK
  replace Xg6:=Xg6.chg hC nXg6
  replace nXg6:=mXg6
  clear mXg6
  replace A:=A.op S hK hC
  clear S hK hC
  refine gl_nil ?_
  refine ge_then ?_
  refine gc_seq ?_
  refine gc_reg ?_
  refine t 4 (.int .i64 0) ?_
  refine gl_nil ?_
  refine ge_then ?_
  refine gc_ret ?_
  refine ge_ret (.int .i64 0) (rs1 4 (by kernel_rfl) (by kernel_rfl)) ?_
  have e1:bumpR id=0:=by first | (simp [bumpR,c1]; done) | (subst_vars; simp_all [bumpR])
  have e2:bumpE E id=layE E id (coin E id) ((seqn E id + 1) % 18446744073709551616):=by simp [bumpE,c1]
  rw [e1,e2]
  exact ⟨rfl,_,_,_,A.sx,by omega,by omega,A.km,A.cc⟩
 ·refine tc 7 25 #[.int .u64 id] (isAcc_any hid (decide_eq_false c1)) ?_
  rintro _ v11 ⟨rfl,B⟩
  refine ⟨_,rfl,?_⟩
  replace A:=A.keep B
  clear B
  refine t 8 (.bool true) ?_
  refine gl_nil ?_
  refine ge_then ?_
  refine gc_yes ?_
  refine gc_seq ?_
  refine gc_reg ?_
  refine t 4 (.int .i64 92) ?_
  refine gl_nil ?_
  refine ge_then ?_
  refine gc_ret ?_
  refine ge_tr ?_
  refine ge_ret (.int .i64 92) (rs1 4 (by kernel_rfl) (by kernel_rfl)) ?_
  have e1:bumpR id=92:=by first | (simp [bumpR,c1]; done) | (subst_vars; simp_all [bumpR])
  have e2:bumpE E id=E:=by simp [bumpE,c1]
  rw [e1,e2]
  exact ⟨rfl,_,_,_,A.sx,by omega,by omega,A.km,A.cc⟩
end Bk
end Go.Proofs.YtfpclhjmfpfhiaaGreat
namespace Go.Proofs.YtfpclhjmfpfhiaaGreat
namespace Kv
open Go.RowKit Go.Lib Pg
attribute [local go_sem] Oper.semAt_some
structure IterG (Tp:TypeId->Prop) (X:Nat->Prop) (n0:Nat) (w:World) (g:Nat) (EL:List En) (v:Value):Prop where
 ex:∃ bs1 bs2 bw W1,v=.func (.func 138) #[] #[.pointer (some ⟨bs1,0,none⟩),.pointer (some ⟨bs2,0,none⟩)]/\Itr Tp 105 #[.pointer (some ⟨bw,0,none⟩)] EL.length (ArC EL) (fun V=>Chg X W1 V)/\RdC X W1 g bs1 bs2 bw w/\n0<=bs1/\n0<=bs2
 small:∀ e∈EL,e.kl.length<=1000000000/\e.vl.length<=1000000000
theorem xwmG {w:World} {K D F V:Nat->Prop} {g m:Nat} {Q:List (List KV)} {jv:Value} {T:List Jr} {oj:Option Nat} {n N:Nat} (h:SX w K D F V g m Q jv T oj n N) (hN:N<=100000000) {X:Nat->Prop} (hx:∀ b,X b->b=g\/¬ K b) (hU:∀ b,X b->∀ cs,¬ Blk w b cs 5) (hl:∀ b,X b->b < w.heap.size):∃ L,Wm w X F D m L/\∀ f t,(wlk (ens L) f t).map En.kl2=Q.flatten.filter (abtw f t) :=
 h.wm hN (fun b hb hF=>(hx b hb).elim (fun e=>by subst e; exact h.own.ntop hF) (fun n=>n (h.own.map b hF))) hU hl
theorem iterG_of {Tp : TypeId → Prop} {X : Nat → Prop} {n0 : Nat} {w w1 w2 : World} {F D : Nat → Prop} {g m bw : Nat} {jv : Value} {n : Int} {L : List Pg} {f t : List Int} (hg : Blk w g [.pointer (some ⟨m, 0, none⟩), jv, .int .i64 n] 65) (Km : Wm w X F D m L) (B1 : Below w.heap.size w w1) (IT : Itr Tp 105 #[.pointer (some ⟨bw, 0, none⟩)] (wlk (ens L) f t).length (ArC (wlk (ens L) f t)) (fun V => Chg X w1 V))
    (b1 : Blk w2 w1.heap.size [.pointer (some ⟨g, 0, none⟩)] 24) (b2 : Blk w2 (w1.heap.size + 1) [.func (.func 105) #[] #[.pointer (some ⟨bw, 0, none⟩)]] 84) (B2 : Below w1.heap.size w1 w2) (h0 : n0 ≤ w.heap.size) :
    IterG Tp X n0 w2 g (wlk (ens L) f t) (.func (.func 138) #[] #[.pointer (some ⟨w1.heap.size, 0, none⟩), .pointer (some ⟨w1.heap.size + 1, 0, none⟩)]) :=
  ⟨⟨_, _, bw, w1, rfl, IT, ⟨Chg.of B2, b1, b2, ⟨_, (hg.keep B1).keep B2⟩⟩, Nat.le_trans h0 B1.size, by have := B1.size; omega⟩, fun e he => by
    obtain ⟨es, h1, h2⟩ := wlk_mem he
    exact Km.small es h1 e h2⟩
set_option maxHeartbeats 4000000 in
set_option maxRecDepth 100000 in
theorem sprefixG {Tp:TypeId->Prop} {X:Nat->Prop} {w:World} {K D:Nat->Prop} {g n N:Nat} {E:Ents} {W:List Ents} {pv:Value} {p:List Int} (h:SA w K D g E W n N) (hN:N<=100000000) (hp:By w pv p) (hpl:p.length<=1000000) (hX1:∀ b,X b->b=g\/¬ K b) (hXU:∀ b,X b->∀ cs,¬ Blk w b cs 5) (hXl:∀ b,X b->b < w.heap.size) (hT:¬ Tp 80) (hTe:¬ Tp 132) :
  Calls Tryz.prog 69 #[.pointer (some ⟨g,0,none⟩),pv] w fun e w'=>∃ v EL,e=.returned v/\IterG Tp X w.heap.size w' g EL v/\EL.map En.kl2=E.filter (fun x=>decide (p <+: x.1))/\Below w.heap.size w w':=by
 have hOct:=h.oct
 have HXX:=hid3 (show (∀ b,X b->b=g\/¬ K b)/\(∀ b,X b->∀ cs,¬ Blk w b cs 5)/\(∀ b,X b->b < w.heap.size) from ⟨hX1,hXU,hXl⟩)
 have HTT:=hid3 (show ¬ Tp 80/\¬ Tp 132 from ⟨hT,hTe⟩)
 clear hX1 hXU hXl hT hTe
 obtain ⟨F,V,m,Q,jv,T,oj,hX,rfl,hB⟩:=h.open
 obtain ⟨pa,pc,rfl,-⟩:=id hp.ex
 have hbel:=next_any hp.drew (by omega)
 have hS:=hX.blk.drew
 have HX:=hid3 hX
 have HP:=hid3 hp
 have HO:=hid3 hOct
 have hpl2:=hid3 hpl
 have bD:Below w.heap.size w w.drew:=⟨rfl,rfl,rfl,Nat.le_refl _,fun _ _=>rfl⟩
 clear hX hp h hB hOct hpl
 obtain ⟨pn,hpn⟩:∃ pn,Hid (p.length=pn):=⟨_,rfl⟩
 rw [hpn.out] at HP hbel ⊢
 go_enter Tryz.func69,Tryz.ntmps69
 go_wp2_with fail
 refine rg_start (S:=fun w'=>Blk w' g [.pointer (some ⟨m,0,none⟩),jv,.int .i64 n] 65) (by kernel_rfl) hS ?_
 refine rg_take 0 (some 5) (.pointer (some ⟨g,0,none⟩)) (by kernel_rfl) (fun _ _=>by kernel_rfl) (fun _ _ _ h=>h) hS ?_
 refine rg_take 1 (some 6) (.pointer (some ⟨g,0,none⟩)) (by kernel_rfl) (fun _ _=>by kernel_rfl) (fun _ _ _ h=>h) hS ?_
 refine rg_take 2 (some 7) (.pointer (some ⟨g,0,none⟩)) (by kernel_rfl) (fun _ _=>by kernel_rfl) (fun _ _ _ h=>h) hS ?_
 refine rg_take 3 (some 8) (.pointer (some ⟨g,0,none⟩)) (by kernel_rfl) (fun _ _=>by kernel_rfl) (fun _ _ _ h=>h) hS ?_
 refine rg_load 4 (some 9) (.pointer (some ⟨m,0,none⟩)) 56 8 g 0 (by kernel_rfl) (by kernel_rfl) (by kernel_rfl) (fun w' h=>ld_mp (h.cell (i:=0) rfl)) (fun _ _ _ h=>h) hS ?_
 refine rg_take 5 (some 10) (.slice pa pn pc) (by kernel_rfl) (fun _ _=>by kernel_rfl) (fun _ _ _ h=>h) hS ?_
 refine rg_take 6 (some 11) (.slice pa pn pc) (by kernel_rfl) (fun _ _=>by kernel_rfl) (fun _ _ _ h=>h) hS ?_
 refine rg_call 7 (some 12) 110 #[.slice pa pn pc] (by kernel_rfl) (by kernel_rfl) hbel ?_
 rintro e' w1 ⟨nv,rfl,O1,B1⟩
 refine ⟨_,rfl,hS.keep B1,?_⟩
 have B1':=joinB bD B1
 replace hS:=hS.keep B1
 have X1:=HX.out.keep B1'
 obtain ⟨L,Km,hw⟩:=xwmG X1 hN HXX.out.1 (fun b hb cs k=>HXX.out.2.1 b hb cs ⟨by rw [<- B1'.block b (HXX.out.2.2 b hb)]; exact k.blk⟩) (fun b hb=>Nat.lt_of_lt_of_le (HXX.out.2.2 b hb) B1'.size)
 have hnl:(nxt p).length<=p.length:=by
  rcases last255 p with h1 | ⟨A,x,B,rfl,hx,hB⟩
  ·rw [nxt_all h1]; simp
  ·rw [nxt_eq hx hB]; simp
 have tW:=walk_any (Tp:=Tp) Km (HP.out.keep B1') O1.by (by have:=hpl2.out; omega) (by have:=hpl2.out; omega) HTT.out.1 HTT.out.2
 refine rg_call 8 (some 13) 39 #[.pointer (some ⟨m,0,none⟩),.slice pa pn pc,nv] (by kernel_rfl) (by kernel_rfl) tW ?_
 rintro e' w2 ⟨bw,rfl,B2,IT⟩
 refine ⟨_,rfl,hS.keep B2,?_⟩
 replace hS:=hS.keep B2
 refine rg_call 9 (some 14) 109 #[.pointer (some ⟨g,0,none⟩),.func (.func 105) #[] #[.pointer (some ⟨bw,0,none⟩)]] (by kernel_rfl) (by kernel_rfl) counted_mk ?_
 rintro e' w3 ⟨rfl,k1,k2,B3⟩
 refine ⟨_,rfl,hS.keep B3,?_⟩
 replace hS:=hS.keep B3
 refine rg_take 10 (some 4) (.func (.func 138) #[] #[.pointer (some ⟨w2.heap.size,0,none⟩),.pointer (some ⟨w2.heap.size + 1,0,none⟩)]) (by kernel_rfl) (fun _ _=>by kernel_rfl) (fun _ _ _ h=>h) hS ?_
 refine rg_done (by kernel_rfl) ?_
 simp only [Act.put,List.setIfInBounds_toArray,List.set_cons_zero,List.set_cons_succ]
 have FI:=hid3 (iterG_of X1.blk Km B2 IT k1 k2 B3 B1'.size)
 have HW:=hid3 (hw p (nxt p))
 have BB:=hid3 (joinB (joinB B1' B2) B3)
 clear hS X1 Km hw tW IT k1 k2 B3 B2 B1 B1' O1 bD
 go_wp2
 go_ret
 refine ⟨_,_,rfl,FI.out,?_,BB.out⟩
 rw [HW.out]
 exact List.filter_congr (fun x hx=>abtw_pre (HO.out x hx))
theorem SA.tick {w:World} {K D:Nat->Prop} {g n N:Nat} {E:Ents} {W:List Ents} (h:SA w K D g E W n N):SA (tick g w n) K D g E W (n + 1) N:=by
 obtain ⟨F,V,m,Q,jv,T,oj,hX,hE,hB⟩:=h.open
 exact (hX.top (chg_tick g n w) (hX.blk.setCell (i:=2) _)).shut hE hB
theorem SA.cnt {w:World} {K D:Nat->Prop} {g n N:Nat} {E:Ents} {W:List Ents} (h:SA w K D g E W n N):w.cell? ⟨g,2,none⟩=some (.int .i64 n)/\w.frozen? ⟨g,2,none⟩=false:=by
 obtain ⟨F,V,m,Q,jv,T,oj,hX,hE,hB⟩:=h.open
 exact ⟨hX.blk.cell (i:=2) rfl,hX.blk.free 2⟩
theorem SA.kv {w:World} {K D:Nat->Prop} {g n N:Nat} {E:Ents} {W:List Ents} (h:SA w K D g E W n N):∃ cs,Blk w g cs 65:=by
 obtain ⟨F,V,m,Q,jv,T,oj,hX,hE,hB⟩:=h.open
 exact ⟨_,hX.blk⟩
def ItrD (W0:World) (Tp:TypeId->Prop) (g x0:Nat) (gf:Nat) (lb:Array Value) (N:Nat) (Ar:Nat->Array Value->Nat->World->Prop) (Rd:World->Prop):Prop :=
 ∀ (l:Nat) (J0:World->Prop) (J Jt Jx:Nat->World->Prop) (W:World),(∀ b,W0.heap.size<=b->∀ cs,¬ Blk W b cs 5)->W0.heap.size<=W.heap.size->St W.heap.size J0->(∀ i,St W.heap.size (J i))->(∀ i,St W.heap.size (Jt i))->(∀ i,St W.heap.size (Jx i))->g < W.heap.size ->
  (∀ V,J0 V->V.cell? ⟨g,2,none⟩=some (.int .i64 x0)/\V.frozen? ⟨g,2,none⟩=false/\Rd V/\J 0 (tick g V x0)) ->
  (∀ i V,J i V->V.cell? ⟨g,2,none⟩=some (.int .i64 ((x0 + 1 + i:Nat):Int))/\V.frozen? ⟨g,2,none⟩=false/\Rd V/\(i < N->Jt i (tick g V (x0 + 1 + i)))) ->
  (∀ i args V V',i < N->Jt i V->W.heap.size<=V.heap.size->Below V.heap.size V V'->Ar i args V.heap.size V'->YieldAt Fence.wide 0 Tryz.prog l args V' fun e V''=>KeepsT Tp W.heap.size V' V''/\((e=.returned (.bool true)/\J (i + 1) V'')\/(e=.returned (.bool false)/\Jx (i + 1) V''))) ->
  J0 W ->
  Calls Tryz.prog gf (#[.func (.yield l) #[] #[]] ++ lb) W fun e W'=>(∃ v,e=.returned v)/\W.heap.size<=W'.heap.size/\(J N W'\/∃ i,i < N/\Jx (i + 1) W')
theorem rf_outerD {Tp : TypeId → Prop} {gf N n g0 x0 : Nat} {lb : Array Value} {Ar : Nat → Array Value → Nat → World → Prop} {Rd : World → Prop} {w : World} (IT : ItrD w Tp g0 x0 gf lb N Ar Rd) {g : Operand} {ps : Array Tmp} {assign body : Code} {Q : Exit → Act → World → Prop} {a : Act}
    (hg : a.eval g = .func (.func gf) #[] lb) (eg : ∀ args w, (callFunc gf args).run Tryz.prog w = .ok (.enter gf args) w) (hArS : ∀ i args n V W, Ar i args n V → Cel V W → Ar i args n W) (hAn : ∀ i args n V, Ar i args n V → args.size = ps.size)
    (I0 : World → Prop) (I It : Nat → World → Prop) (Ix : Code → Nat → World → Prop) (hI0 : St w.heap.size I0) (hI : ∀ i, St w.heap.size (I i)) (hIt : ∀ i, St w.heap.size (It i)) (hIx : ∀ c i, St w.heap.size (Ix c i)) (hgw : g0 < w.heap.size)
    (hx0 : ∀ V, I0 V → V.cell? ⟨g0, 2, none⟩ = some (.int .i64 x0) ∧ V.frozen? ⟨g0, 2, none⟩ = false ∧ Rd V ∧ I 0 (tick g0 V x0))
    (hx : ∀ i V, I i V → V.cell? ⟨g0, 2, none⟩ = some (.int .i64 ((x0 + 1 + i : Nat) : Int)) ∧ V.frozen? ⟨g0, 2, none⟩ = false ∧ Rd V ∧ (i < N → It i (tick g0 V (x0 + 1 + i)))) (h0 : I0 w)
    (hround : RoundC Tp w N n ps assign body a.tmps Ar It I Ix)
    (hdone : ∀ D W, w.heap.size ≤ D → W.heap[D]? = some (.deferred (some [])) → I N W → Q .normal { a with defers := { target := .collected D, args := #[] } :: a.defers } W)
    (hstop : ∀ D c i W, w.heap.size ≤ D → W.heap[D]? = some (.deferred (some [])) → i < N → Ix c (i + 1) W → c.wpIn Fence.wide n Tryz.prog Q { a with defers := { target := .collected D, args := #[] } :: a.defers } W) :
    (Code.rangeFunc g ps assign body).wpIn Fence.wide n Tryz.prog Q a w := by
  refine wpIn_rangeFunc ?_
  intro fn _
  obtain ⟨W1, hW1⟩ : ∃ W1, (w.alloc (.deferred (some []))).alloc (.loop (recd fn a.tmps ps assign body w.heap.size .ready none)) = W1 := ⟨_, rfl⟩
  have hB1 : Below w.heap.size w W1 := by rw [← hW1]; exact joinB (below_alloc w _) (below_alloc _ _)
  have hs1 : W1.heap.size = w.heap.size + 1 + 1 := by rw [← hW1]; simp
  have hL1 : W1.heap[w.heap.size + 1]? = some (.loop (recd fn a.tmps ps assign body w.heap.size .ready none)) := by
    rw [← hW1]; have := World.alloc_heap_new (w.alloc (.deferred (some []))) (.loop (recd fn a.tmps ps assign body w.heap.size .ready none)); rwa [World.size_alloc] at this
  have hK1 : W1.heap[w.heap.size]? = some (.deferred (some [])) := by
    rw [← hW1]; exact (Below.heap_alloc _ _ _ (by simp)).trans (World.alloc_heap_new w _)
  have t1 : ∀ V x, (tick g0 V x).heap[w.heap.size + 1]? = V.heap[w.heap.size + 1]? := fun V x => tick_other (by omega)
  have t2 : ∀ V x, (tick g0 V x).heap[w.heap.size]? = V.heap[w.heap.size]? := fun V x => tick_other (by omega)
  have hNB : ∀ b, w.heap.size ≤ b → ∀ cs, ¬ Blk W1 b cs 5 := fun b hb cs k => by
    have hlt := k.lt
    have hk := k.blk
    rcases Nat.lt_or_ge w.heap.size b with h1 | h1
    · obtain rfl : b = w.heap.size + 1 := by omega
      rw [hL1] at hk
      cases hk
    · obtain rfl : b = w.heap.size := by omega
      rw [hK1] at hk
      cases hk
  refine ⟨w.heap.size + 1, [{ target := .collected w.heap.size, args := #[] }], W1, { target := .fn (.func gf) lb, args := #[.func (.yield (w.heap.size + 1)) #[] #[]] }, W1, gf,
    #[.func (.yield (w.heap.size + 1)) #[] #[]] ++ lb, W1, ?_, ?_, ?_, ?_, fun h => (by cases h), ?_⟩
  · rw [← hW1]; exact run_enterLoop_outer _ _ _ _ _
  · simp only [resolve, hg]
    simp [go_sem]
  · intro f' _; trivial
  · simp [invoke, go_sem, eg]
  · refine callsIn_wide.2 ?_
    refine (IT (w.heap.size + 1)
      (fun W => I0 W ∧ W.heap[w.heap.size + 1]? = some (.loop (recd fn a.tmps ps assign body w.heap.size .ready none)) ∧ W.heap[w.heap.size]? = some (.deferred (some [])))
      (fun i W => I i W ∧ W.heap[w.heap.size + 1]? = some (.loop (recd fn a.tmps ps assign body w.heap.size .ready none)) ∧ W.heap[w.heap.size]? = some (.deferred (some [])))
      (fun i W => It i W ∧ W.heap[w.heap.size + 1]? = some (.loop (recd fn a.tmps ps assign body w.heap.size .ready none)) ∧ W.heap[w.heap.size]? = some (.deferred (some [])))
      (fun i W => ∃ c, Ix c i W ∧ W.heap[w.heap.size + 1]? = some (.loop (recd fn a.tmps ps assign body w.heap.size .done (some c))) ∧ W.heap[w.heap.size]? = some (.deferred (some [])))
      W1 hNB (by omega) (fun X Y hx hr => ⟨hI0 X Y hx.1 (hr.mono (by omega)), hr.same _ _ hx.2.1 (.inl (by omega)), hr.same _ _ hx.2.2 (.inl (by omega))⟩)
      (fun i X Y hx hr => ⟨hI i X Y hx.1 (hr.mono (by omega)), hr.same _ _ hx.2.1 (.inl (by omega)), hr.same _ _ hx.2.2 (.inl (by omega))⟩)
      (fun i X Y hx hr => ⟨hIt i X Y hx.1 (hr.mono (by omega)), hr.same _ _ hx.2.1 (.inl (by omega)), hr.same _ _ hx.2.2 (.inl (by omega))⟩)
      (fun i X Y hx hr => by obtain ⟨c, h1, h2, h3⟩ := hx; exact ⟨c, hIx c i X Y h1 (hr.mono (by omega)), hr.same _ _ h2 (.inl (by omega)), hr.same _ _ h3 (.inl (by omega))⟩)
      (by omega)
      (fun V hv => by obtain ⟨q1, q2, q3, q4⟩ := hx0 V hv.1; exact ⟨q1, q2, q3, q4, (t1 V x0).trans hv.2.1, (t2 V x0).trans hv.2.2⟩)
      (fun i V hv => by obtain ⟨q1, q2, q3, q4⟩ := hx i V hv.1; exact ⟨q1, q2, q3, fun hi => ⟨q4 hi, (t1 V _).trans hv.2.1, (t2 V _).trans hv.2.2⟩⟩)
      ?_ ⟨hI0 _ _ h0 (Rec.of hB1), hL1, hK1⟩).mono ?_
    · rintro i args V V' hiN ⟨hi, hl, hk⟩ hsz hb ha
      have hr := hround _ i args V V' (by omega) (lt_of_block hl) ⟨_, hl⟩ hiN hi hb ha
      refine (yield_core (Tp := Tp) (B := w.heap.size) (i := 2 * i + 1) (I := zip2 I It) (Ix := fun c k => Ix c (k / 2)) (Ar := fun k => Ar (k / 2)) (fun j => hArS (j / 2)) (fun j => by unfold zip2; split; exact hI _; exact hIt _) (fun c j => hIx c _) (by omega) hl (by rw [zip2_odd]; exact hi) hb (by rw [show (2 * i + 1) / 2 = i by omega]; exact ha) (hAn _ _ _ _ ha) (wpIn_mono hr ?_)).mono ?_
      · intro e a1 W1 h
        cases e <;> first
          | (refine ⟨h.1, fun V2 W2 q1 q2 q3 q4 q5 q6 q7 => ?_⟩
             rw [zip2_odd] at q1
             rw [show (2 * i + 1) / 2 = i by omega] at q3
             exact wpIn_mono (h.2 V2 W2 q1 q2 q3 q4 q5 q6 q7) (fun e a W h => bpost_zip h))
          | exact h.elim
      · rintro e V'' ⟨hkp, h⟩
        have hk2 := hkp.same _ _ (Nat.le_refl _) (by omega) ((hb.block _ (lt_of_block hk)).trans hk) safe_def
        refine ⟨hkp.from (by omega) (by omega), h.imp (fun h => ⟨h.1, by have := h.2.1; rw [zip2_even] at this; exact this, h.2.2, hk2⟩) (fun h => ?_)⟩
        obtain ⟨h1, c, h2, h3⟩ := h
        rw [show (2 * i + 1 + 1) / 2 = i + 1 by omega] at h2
        exact ⟨h1, c, h2, h3, hk2⟩
    · rintro e W2 ⟨⟨v, rfl⟩, hsz, ⟨hi, hl, hk⟩ | ⟨i, hiN, c, hi, hl, hk⟩⟩
      · exact ⟨none, _, run_endLoop (P := Tryz.prog) hl (by simp [recd]), hdone _ _ (Nat.le_refl _) ((World.putObj_heap_other (by omega)).trans hk) (hI _ _ _ hi (Rec.put hl rfl (by omega) _))⟩
      · exact ⟨some c, _, run_endLoop (P := Tryz.prog) hl (by simp [recd]), hstop _ c i _ (Nat.le_refl _) ((World.putObj_heap_other (by omega)).trans hk) hiN (hIx c _ _ _ hi (Rec.put hl rfl (by omega) _))⟩
end Kv
end Go.Proofs.YtfpclhjmfpfhiaaGreat
namespace Go.Proofs.YtfpclhjmfpfhiaaGreat
namespace Bk
open Go.RowKit Go.Lib Pg Kv
attribute [local go_sem] Oper.semAt_some
def TpN (_:TypeId):Prop:=False
def accs (E:Ents):List Int:=(E.filter (fun x=>decide ([97] <+: x.1))).map (fun x=>coinB x.2)
def ArS (cs:List Int) (i:Nat) (args:Array Value) (_:Nat) (_:World):Prop:=∃ c,cs[i]? = some c/\args=#[.int .u64 c]
def RdS (W0:World) (X K D:Nat->Prop) (g:Nat) (E:Ents) (Wn:List Ents) (N:Nat) (V:World):Prop:=Chg X W0 V/\(∀ b,X b->∀ cs,¬ Blk V b cs 5)/\∃ x,SA V K D g E Wn x N
def Ext (a:Nat) (w2 V:World):Prop:=(∀ b,a<=b->b < w2.heap.size->V.heap[b]? = w2.heap[b]?)/\w2.heap.size<=V.heap.size
theorem Ext.rcd {a:Nat} {w2 V V':World} (h:Ext a w2 V) (hr:Rec w2.heap.size V V'):Ext a w2 V' :=
 ⟨fun b h1 h2=>by
  have e:=h.1 b h1 h2
  have h3:w2.heap[b]? = some w2.heap[b]:=Array.getElem?_eq_getElem h2
  rw [h3] at e ⊢
  exact hr.same b _ e (.inl h2),Nat.le_trans h.2 hr.size⟩
theorem Ext.keep {a:Nat} {w2 V V':World} (h:Ext a w2 V) (hb:Below V.heap.size V V'):Ext a w2 V' :=
 ⟨fun b h1 h2=>(hb.block b (Nat.lt_of_lt_of_le h2 h.2)).trans (h.1 b h1 h2),Nat.le_trans h.2 hb.size⟩
theorem Ext.tick {a g x:Nat} {w2 V:World} (h:Ext a w2 V) (hg:g < a):Ext a w2 (tick g V x) :=
 ⟨fun b h1 h2=>(tick_other (by omega)).trans (h.1 b h1 h2),by rw [tick_size]; exact h.2⟩
theorem Ext.keepsT {a:Nat} {w2 V V':World} (h:Ext a w2 V) (hk:KeepsT TpN a V V'):Ext a w2 V' :=
 ⟨fun b h1 h2=>by
  have e:=h.1 b h1 h2
  have h3:w2.heap[b]? = some w2.heap[b]:=Array.getElem?_eq_getElem h2
  rw [h3] at e ⊢
  exact hk.same b _ h1 e (fun _ _ _ _ h=>h),Nat.le_trans h.2 hk.size⟩
theorem Ext.blk {a b:Nat} {w2 V:World} {cs:List Value} {t:TypeId} (h:Ext a w2 V) (k:Blk w2 b cs t) (hb:a<=b):Blk V b cs t:=k.same (h.1 b hb k.lt)
theorem of4 {w:World}:Calls Tryz.prog 68 #[.int .i64 4] w fun e w'=>∃ v,e=.returned (.tuple #[v,.int .i64 0])/\OB w' (w.heap.size <= ·) v [97]/\Below w.heap.size w w':=Ky.of_any (k:=4)
set_option maxHeartbeats 8000000 in
set_option maxRecDepth 100000 in
theorem coins_itr {W0 : World} {K D X : Nat → Prop} {g bs x0 N : Nat} {E : Ents} {Wn : List Ents} (hS : SA W0 K D g E Wn x0 N) (hbs : Blk W0 bs [.pointer (some ⟨g, 0, none⟩)] 24) (hXb : ¬ X bs) (hX1 : ∀ b, X b → b = g ∨ ¬ K b) (hXl : ∀ b, X b → b < W0.heap.size) (hN : N ≤ 100000000) (hx : x0 + N ≤ 2000000000000000000) :
    ItrD W0 TpN g x0 67 #[.pointer (some ⟨bs, 0, none⟩)] (accs E).length (ArS (accs E)) (RdS W0 X K D g E Wn N) := by
  intro l J0 J Jt Jx W hNB hW0 hS0 hSJ hSt hSx hgW hJ0 hJ hY h0
  obtain ⟨_, _, ⟨c0, u0, xx, s0⟩, _⟩ := hJ0 _ h0
  have B1 := below_alloc W (.cells #[.func (.yield l) #[] #[]] 66)
  have Y1 := blk_new W [.func (.yield l) #[] #[]] 66
  have s1 : (W.alloc (.cells #[.func (.yield l) #[] #[]] 66)).heap.size = W.heap.size + 1 := by simp
  obtain ⟨Wa, hWa⟩ : ∃ Wa, Hid (W.alloc (.cells #[.func (.yield l) #[] #[]] 66) = Wa) := ⟨_, rfl⟩
  rw [hWa.out] at B1 Y1 s1
  have bsW := hbs.chg c0 hXb
  have hK0 : ∀ b, K b → b < W0.heap.size := fun b hb => hS.lt hb
  have HX' : Hid (∀ b, (X b ∨ (W0.heap.size ≤ b ∧ b < W.heap.size)) → b = g ∨ ¬ K b) := hid3 (fun b hb => hb.elim (hX1 b) (fun h => .inr (fun hk => by have := hK0 b hk; omega)))
  have HXl : Hid (∀ b, (X b ∨ (W0.heap.size ≤ b ∧ b < W.heap.size)) → b < W.heap.size) := hid3 (fun b hb => hb.elim (fun h => Nat.lt_of_lt_of_le (hXl b h) hW0) (fun h => h.2))
  have HXU : Hid (∀ b, (X b ∨ (W0.heap.size ≤ b ∧ b < W.heap.size)) → ∀ cs, ¬ Blk W b cs 5) := hid3 (fun b hb => hb.elim (u0 b) (fun h => hNB b h.1))
  have HY := hid3 hY
  have HJ := hid3 hJ
  have HJ0 := hid3 hJ0
  have H0 := hid3 h0
  have HS := hid3 s0
  have HC0 := hid3 c0
  have HB1 := hid3 B1
  have HY1 := hid3 Y1
  have HBS := hid3 bsW
  clear hJ0 hJ hY h0 s0 c0 B1 Y1 bsW hNB u0
  refine (callsIn_wide (n := 0)).1 ?_
  refine callsIn_of_wp_marks Tryz.func67 rfl trivial ?_ rfl
  simp only [Tryz.ntmps67, List.size_toArray, List.length_cons, List.length_nil, Nat.reduceAdd, Nat.reduceSub, Array.replicate_succ, Array.replicate_zero, List.push_toArray, List.append_toArray, List.nil_append, List.cons_append]
  gi_wp2_with first
    | (refine ⟨trivial, rfl, ?_⟩; gi_at_call 68; rw [hWa.out]; refine (callsIn_wide.2 of4).mono ?_; rintro e' w1 ⟨v1, rfl, O1, B2⟩; have cB := (HBS.out.keep (joinB HB1.out B2)).cell (i := 0) rfl; have tP := sprefixG (Tp := TpN) (X := fun b => X b ∨ (W0.heap.size ≤ b ∧ b < W.heap.size)) (HS.out.keep (joinB HB1.out B2)) hN O1.by (by decide) HX'.out (fun b hb cs k => HXU.out b hb cs ⟨by rw [← (joinB HB1.out B2).block b (HXl.out b hb)]; exact k.blk⟩) (fun b hb => Nat.lt_of_lt_of_le (HXl.out b hb) (joinB HB1.out B2).size) (fun h => h) (fun h => h); obtain ⟨pa, pc, rfl⟩ := O1.shape)
    | (refine ⟨trivial, rfl, ?_⟩; gi_at_call 69; refine (callsIn_wide.2 tP).mono ?_; rintro e' w2 ⟨v2, EL, rfl, IG, hEL, B3⟩; obtain ⟨bs1, bs2, bw, W1, rfl, IT, hRd, hb1, hb2⟩ := IG.ex; have hsm := IG.small; clear tP IG)
  have BW := joinB (joinB HB1.out B2) B3
  have hw1 : W.heap.size + 1 ≤ w1.heap.size := by have := B2.size; omega
  have hw2 : W.heap.size + 1 ≤ w2.heap.size := Nat.le_trans hw1 B3.size
  have YB := (HY1.out.keep B2).keep B3
  have hlen : (accs E).length = EL.length := by simp [accs, ← hEL]
  have hle : EL.length ≤ N := by
    have h1 := HS.out.size
    have h2 : (EL.map En.kl2).length ≤ E.length := by rw [hEL]; exact List.length_filter_le _ _
    rw [List.length_map] at h2
    omega
  have ITC := counted_itr (g := g) (bs1 := bs1) (bs2 := bs2) (x0 := x0) IT (fun h => h) (by omega)
  have J2 := hS0 _ _ H0.out (Rec.of BW)
  have E2 : Ext W.heap.size w2 w2 := ⟨fun _ _ _ => rfl, Nat.le_refl _⟩
  have RDC : Hid (∀ V, RdS W0 X K D g E Wn N V → Ext W.heap.size w2 V → RdC (fun b => X b ∨ (W0.heap.size ≤ b ∧ b < W.heap.size)) W1 g bs1 bs2 bw V) := hid3 (fun V hR hE => by
    obtain ⟨c1, _, x, s1⟩ := hR
    obtain ⟨r1, r2, r3, _⟩ := hRd
    refine ⟨⟨?_, ?_, ?_, Nat.le_trans r1.size hE.2, fun b hb hn => ?_⟩, hE.blk r2 (by omega), hE.blk r3 (by omega), s1.kv⟩
    · rw [c1.os, ← HC0.out.os, ← BW.os, r1.os]
    · rw [c1.tape, ← HC0.out.tape, ← BW.tape, r1.tape]
    · rw [c1.output, ← HC0.out.output, ← BW.output, r1.output]
    · rw [← r1.same b hb hn]
      rw [not_or] at hn
      rcases Nat.lt_or_ge b W0.heap.size with h1 | h1
      · rw [c1.same b h1 hn.1, BW.block b (by omega), HC0.out.same b h1 hn.1]
      · exact hE.1 b (by omega) (Nat.lt_of_lt_of_le hb r1.size))
  have HEL := hid3 hEL
  have HSM := hid3 hsm
  have HYB := hid3 YB
  clear hEL hsm YB B2 B3 hRd O1 cB IT BW HB1 HY1
  refine rf_outerC ITC (by rfl) (enters_of Tryz.func138 (by kernel_rfl) rfl) (fun i args n V V' h hc => h.cel hc) (fun i args n V h => by obtain ⟨e, kv, vv, s, _, rfl, _⟩ := h; rfl)
    (fun V => J0 V ∧ Ext W.heap.size w2 V)
    (fun i V => J i V ∧ Ext W.heap.size w2 V)
    (fun i V => Jt i V ∧ Ext W.heap.size w2 V)
    (fun c i V => c = .ret ∧ Jx i V ∧ w2.heap.size ≤ V.heap.size)
    (fun A B hx hr => ⟨hS0 A B hx.1 (hr.mono (by omega)), hx.2.rcd hr⟩)
    (fun i A B hx hr => ⟨hSJ i A B hx.1 (hr.mono (by omega)), hx.2.rcd hr⟩)
    (fun i A B hx hr => ⟨hSt i A B hx.1 (hr.mono (by omega)), hx.2.rcd hr⟩)
    (fun c i A B hx hr => ⟨hx.1, hSx i A B hx.2.1 (hr.mono (by omega)), Nat.le_trans hx.2.2 hr.size⟩)
    (by omega)
    (fun V hv => by obtain ⟨q1, q2, q3, q4⟩ := HJ0.out V hv.1; exact ⟨q1, q2, RDC.out V q3 hv.2, q4, hv.2.tick hgW⟩)
    (fun i V hv => by obtain ⟨q1, q2, q3, q4⟩ := HJ.out i V hv.1; exact ⟨q1, q2, RDC.out V q3 hv.2, fun hi => ⟨q4 (by omega), hv.2.tick hgW⟩⟩)
    ⟨J2, E2⟩ ?_ ?_ ?_
  · rintro l2 i args V Wv hl hlV hrec hiN ⟨hJi, hExt⟩ hb ⟨e0, kv, vv, s0, he0, rfl, hk0, hv0, _⟩
    obtain ⟨ak0, nk, hk1⟩ := hk0.shape
    obtain ⟨av, nv, hv1⟩ := hv0.shape
    subst hk1 hv1
    simp
    gi_wp2
    refine ⟨Below.refl _ _, ?_⟩
    intro V2 W2 hJ2 hExt2 hb2 hAr2 hoth hsz3 hV2 r hrec2
    obtain ⟨e1, kv1, vv1, t1, he1, harr, hk2, hv2, ht1⟩ := hAr2
    obtain rfl : e1 = e0 := by rw [he0] at he1; cases he1; rfl
    simp at harr
    obtain ⟨rfl, rfl⟩ := harr
    have tA := acct_any (ByU.of hv2) (HSM.out e1 (List.mem_of_getElem? he0)).2
    have hci : (accs E)[i]? = some (coinB e1.vl) := by simp [accs, ← HEL.out, he0, En.kl2]
    have yB := hExt2.blk HYB.out (Nat.le_refl _)
    have HE2 := hid3 hExt2
    have HYY := hid3 (HY.out i #[.int .u64 (coinB e1.vl)] V2)
    have HJT := hid3 hJ2
    have HB2 := hid3 hb2
    have hs2 : w2.heap.size ≤ V2.heap.size := hExt2.2
    have hs3 : V2.heap.size ≤ W2.heap.size := hb2.size
    have HYV := hid3 (yB.keep hb2)
    have HCI := hid3 hci
    clear hJi hExt hb hk0 hv0 hk2 hv2 hoth hExt2 hJ2 hb2 yB he1 he0 ht1 hci
    obtain ⟨cc, hcc⟩ : ∃ cc, Hid (coinB e1.vl = cc) := ⟨_, rfl⟩
    obtain ⟨ss, hss⟩ : ∃ ss, Hid (seqB e1.vl = ss) := ⟨_, rfl⟩
    simp only [hcc.out, hss.out] at tA HYY HCI
    gi_wp2_with (refine ⟨trivial, rfl, ?_⟩; gi_at_call 34; refine (CallsIn.inRound l2 (callsIn_wide.2 tA)).mono ?_; rintro e' w3 ⟨rfl, B3⟩; clear tA; have B4 := below_alloc w3 (.cells #[.int .u64 cc, .int .u64 ss] 42); have yC := (HYV.out.keep (joinB B3 B4)).cell (i := 0) rfl; have hYY := HYY.out _ (by omega) HJT.out (by omega) (joinB HB2.out (joinB B3 B4)) ⟨_, HCI.out, rfl⟩; obtain ⟨fn, tmps, assign, body, hy, hR⟩ := hYY; have hR2 : RoundIn (Fence.wide.inRound l2) 0 Tryz.prog l fn tmps assign body (w3.alloc (.cells #[.int .u64 cc, .int .u64 ss] 42)) _ := ⟨hR.1, fun c cs _ => hR.2 c cs (fun _ h => by cases h)⟩; have HR := hid3 hR2; have HK := hid3 (joinB B3 B4); clear hR hR2 B3 B4)
    refine ⟨rfl, HR.out.mono ?_⟩
    rintro e' w5 ⟨hk5, h5⟩
    have hkk : KeepsT TpN W.heap.size W2 w5 := (KeepsT.of HK.out).trans hk5
    have hE5 := (HE2.out.keep HB2.out).keepsT hkk
    have hk2 : KeepsT TpN w2.heap.size W2 w5 := hkk.mono (by omega)
    rcases h5 with ⟨rfl, hJ5⟩ | ⟨rfl, hJ5⟩
    · gi_wp2
      exact ⟨hk2, hJ5, hE5⟩
    · gi_wp2
      exact ⟨hk2, rfl, hJ5, hE5.2⟩
  · rintro D' W' hD hK ⟨hJn, hE⟩
    gi_wp2
    refine ⟨by simp, .inl ⟨_, _, rfl, run_takeDeferred hK, ?_⟩⟩
    have := hE.2
    exact ⟨_, results_none rfl _ _ _, ⟨_, rfl⟩, by simp; omega, .inl (by rw [hlen]; exact hSJ _ _ _ hJn (Rec.put hK rfl (by omega) _))⟩
  · rintro D' c i W' hD hK hiN ⟨rfl, hJx', hsz⟩
    gi_wp2
    refine ⟨by simp, .inl ⟨_, _, rfl, run_takeDeferred hK, ?_⟩⟩
    exact ⟨_, results_none rfl _ _ _, ⟨_, rfl⟩, by simp; omega, .inr ⟨i, by omega, hSx (i + 1) _ _ hJx' (Rec.put hK rfl (by omega) _)⟩⟩
end Bk
end Go.Proofs.YtfpclhjmfpfhiaaGreat
namespace Go.Proofs.YtfpclhjmfpfhiaaGreat
namespace Bk
open Go.RowKit Go.Lib Pg Lim Kv
attribute [local go_sem] Oper.semAt_some
structure SumA (w:World) (B t:Nat) (ao:Option Addr) (n c:Nat) (x:Int):Prop where
 ex:∃ b o l,l.length=n/\n<=c/\IsN l x/\Go.Proofs.YtfpclhjmfpfhiaaGreat.At w ao b o l/\B<=b/\b≠t
theorem SumA.off {w w':World} {B t n c:Nat} {ao:Option Addr} {x:Int} (h:SumA w B t ao n c x) (hw:∀ b,B<=b->b≠t->b < w.heap.size->w'.heap[b]? = w.heap[b]?):SumA w' B t ao n c x:=by
 obtain ⟨b,o,l,h1,h2,h3,h4,h5,h6⟩:=h.ex
 refine ⟨b,o,l,h1,h2,h3,⟨h4.loc,fun i hi => ?_⟩,h5,h6⟩
 have hc:=h4.cell i hi
 rw [World.cell?_of_block (w:=w) (hw b h5 h6 (cell_lt hc))]
 exact hc
theorem SumA.cel {w w' : World} {B t n c : Nat} {ao : Option Addr} {x : Int} (h : SumA w B t ao n c x) (hr : Cel w w') : SumA w' B t ao n c x := by
  obtain ⟨b, o, l, h1, h2, h3, h4, h5, h6⟩ := h.ex
  refine ⟨b, o, l, h1, h2, h3, ⟨h4.loc, fun i hi => ?_⟩, h5, h6⟩
  have hc := h4.cell i hi
  have hw : w'.heap[b]? = w.heap[b]? := by
    cases hh : w.heap[b]? with
    | none => simp [World.cell?, hh] at hc
    | some ob => cases ob <;> first
      | exact hr.same b _ hh rfl
      | (simp [World.cell?, hh] at hc)
  rw [World.cell?_of_block (w := w) hw]
  exact hc
theorem SumA.keep {w w':World} {B t n c:Nat} {ao:Option Addr} {x:Int} (h:SumA w B t ao n c x) (hb:Below w.heap.size w w'):SumA w' B t ao n c x:=h.off (fun b _ _ hl=>hb.block b hl)
theorem SumA.w {w:World} {B t n c:Nat} {ao:Option Addr} {x:Int} (h:SumA w B t ao n c x):Rc.NatW w B ao n c x:=by
 obtain ⟨b,o,l,h1,h2,h3,h4,h5,h6⟩:=h.ex
 exact ⟨b,o,l,h1,h2,h3,h4,h5⟩
theorem sum_of {w:World} {B t n c:Nat} {ao:Option Addr} {x:Int} (h:Rc.NatW w B ao n c x) (h1:t < B):SumA w B t ao n c x:=by
 obtain ⟨b,o,l,h1,h2,h3,h4,h5⟩:=h.ex
 exact ⟨b,o,l,h1,h2,h3,h4,h5,by omega⟩
theorem SumA.low {w:World} {B B' t n c:Nat} {ao:Option Addr} {x:Int} (h:SumA w B t ao n c x) (hB:B'<=B):SumA w B' t ao n c x:=by
 obtain ⟨b,o,l,h1,h2,h3,h4,h5,h6⟩:=h.ex
 exact ⟨b,o,l,h1,h2,h3,h4,by omega,h6⟩
theorem sum_at {w:World} {B n c:Nat} {ao:Option Addr} {x:Int} (h:Rc.NatW w B ao n c x) (hB:B<=w.heap.size) (w':World) (hb:Below w.heap.size w w'):SumA w' B w.heap.size ao n c x:=by
 obtain ⟨b,o,l,h1,h2,h3,h4,h5⟩:=h.ex
 rcases Nat.lt_or_ge b w.heap.size with hl | hl
 ·exact SumA.keep ⟨b,o,l,h1,h2,h3,h4,h5,by omega⟩ hb
 ·have hn:l=[]:=by
   cases l with
   | nil=>rfl
   | cons y l=>exact absurd (cell_lt (h4.cell 0 (by simp))) (by simpa using hl)
  subst hn
  exact ⟨w.heap.size + 1,o,[],h1,h2,h3,⟨.inl rfl,fun i hi=>by simp at hi⟩,by omega,by omega⟩
theorem wOf {w:World} {x:Int} (h0:0<=x) (h1:x < 18446744073709551616):Calls Tryz.prog 22 #[.int .u64 x] w fun e w'=>∃ a k d,e=.returned (.slice a k d)/\Rc.NatW w' w.heap.size a k d x/\k<=1/\Below w.heap.size w w':=by
 refine (Go.Proofs.YtfpclhjmfpfhiaaGreat.of_any x w h0 h1).mono ?_
 rintro e w' ⟨v,r,rfl,hnw,hI,hlen,hB⟩
 obtain ⟨a,d,rfl,hO⟩:=Rc.newV_w hnw hI (Nat.le_refl _)
 exact ⟨a,_,d,rfl,hO,hlen,hB⟩
theorem wAdd {w:World} {ao ao':Option Addr} {n c n' c':Nat} {x y:Int} (h:NatA w ao n c x) (h':NatA w ao' n' c' y) (hn:n<=1099511627776) (hn':n'<=1099511627776) :
  Calls Tryz.prog 21 #[.slice ao n c,.slice ao' n' c'] w fun e w'=>∃ a k d,e=.returned (.slice a k d)/\Rc.NatW w' w.heap.size a k d (x + y)/\k<=n + n' + 1/\Below w.heap.size w w':=by
 obtain ⟨b,o,l,h1,h2,h3,h4,rfl⟩:=h.ex
 obtain ⟨b',o',l',h1',h2',h3',h4',rfl⟩:=h'.ex
 refine (add_any ao n c b o ao' n' c' b' o' l l' w h1 h1' h2 h2' hn hn' h3 h3' h4 h4').mono ?_
 rintro e w' ⟨v,r,rfl,hnw,hI,hlen,hB⟩
 obtain ⟨a,d,rfl,hO⟩:=Rc.newV_w hnw hI (Nat.le_refl _)
 exact ⟨a,_,d,rfl,hO,hlen,hB⟩
theorem SA.rcd {w w':World} {K D:Nat->Prop} {g n N B:Nat} {E:Ents} {W:List Ents} (h:SA w K D g E W n N) (hr:Rec B w w'):SA w' K D g E W n N :=
 h.same (fun b hK=>by obtain ⟨cs,t,k,_⟩:=h.kind b hK; exact (hr.same b _ k.blk (.inr rfl)).trans k.blk.symm) (fun b _ _ hk=>by obtain ⟨cs,k⟩:=hk; exact (hr.same b _ k.blk (.inr rfl)).trans k.blk.symm)
theorem ld_n {w:World} {g:Nat} {v:Value} (c:Blk w g [v] 49):(loadVar 49 ⟨g,0,none⟩).run Tryz.prog w=.ok v w:=by
 have c:=c.cell (i:=0) rfl
 go_simp
theorem run_sn {a:Act} {w:World} {o:Oper} (k q:Nat) {g n c:Nat} {u:Value} {ao:Option Addr} (ho:o.op=.store 49 (.tmp k) (.tmp q)) (hp:a.eval (.tmp k)=.pointer (some ⟨g,0,none⟩)) (hq:a.eval (.tmp q)=.slice ao n c) (hb:Blk w g [u] 49) :
  (execOp a.eval o).run Tryz.prog w=.ok .skip (w.setCell ⟨g,0,none⟩ (.slice ao n c)):=by
 have hc:=hb.cell (i:=0) rfl
 have hf:=hb.free 0
 simp only [execOp,ho,hp,hq]
 go_simp
structure TotI (Wb:World) (B t:Nat) (K D:Nat->Prop) (g:Nat) (E:Ents) (Wn:List Ents) (N x i:Nat) (V:World):Prop where
 chg:Chg (fun b=>b=g\/b=t) Wb V
 sa:SA V K D g E Wn x N
 out:∃ a k d,Blk V t [.slice a k d] 49/\SumA V B t a k d ((accs E).take i).sum/\k<=2 * i + 1
section
variable {Wb V V':World} {B t g x i N:Nat} {K D:Nat->Prop} {E:Ents} {Wn:List Ents}
theorem TotI.rcd (h:TotI Wb B t K D g E Wn N x i V) (hr:Rec Wb.heap.size V V'):TotI Wb B t K D g E Wn N x i V':=by
 obtain ⟨a,k,d,h1,h2,h3⟩:=h.out
 exact ⟨chg_rcd h.chg hr (Nat.le_refl _),SA.rcd h.sa hr,a,k,d,rec_cel h1 hr,h2.cel hr.cel,h3⟩
theorem TotI.tick (h:TotI Wb B t K D g E Wn N x i V) (hg:g < B):TotI Wb B t K D g E Wn N (x + 1) i (tick g V x):=by
 obtain ⟨a,k,d,h1,h2,h3⟩:=h.out
 have hc:=chg_tick g x V
 have hne:t≠g:=fun e=>by
  obtain ⟨cs,k⟩:=h.sa.kv
  subst e
  exact absurd (h1.eq k).2 (by decide)
 exact ⟨h.chg.trans hc (fun b _ e=>.inl e),h.sa.tick,a,k,d,h1.chg hc hne,h2.off (fun b hb _ hl=>hc.same b hl (fun e=>by have e':b=g:=e; omega)),h3⟩
theorem TotI.rd (h:TotI Wb B t K D g E Wn N x i V):RdS Wb (fun b=>b=g\/b=t) K D g E Wn N V:=by
 refine ⟨h.chg,fun b hb cs k => ?_,_,h.sa⟩
 obtain ⟨a,k2,d,h1,_⟩:=h.out
 rcases hb with rfl | rfl
 ·obtain ⟨cs',k'⟩:=h.sa.kv
  exact absurd (k.eq k').2 (by decide)
 ·exact absurd (k.eq h1).2 (by decide)
end
theorem accs_rng {w:World} {K D:Nat->Prop} {g n N:Nat} {E:Ents} {W:List Ents} (h:SA w K D g E W n N) {i:Nat} {c:Int} (hc:(accs E)[i]? = some c):0<=c/\c < 18446744073709551616:=by
 have hm:=List.mem_of_getElem? hc
 obtain ⟨x,hx,rfl⟩:=List.mem_map.1 hm
 exact (coinB_rng (SA.octv h x (List.mem_filter.1 hx).1)).1
set_option maxHeartbeats 8000000 in
set_option maxRecDepth 100000 in
theorem total_any {w : World} {K D : Nat → Prop} {g bs x0 N : Nat} {E : Ents} {Wn : List Ents} (hS : SA w K D g E Wn x0 N) (hbs : Blk w bs [.pointer (some ⟨g, 0, none⟩)] 24) (hN : N ≤ 100000000) (hx : x0 + N ≤ 2000000000000000000) :
    Calls Tryz.prog 40 #[.func (.func 67) #[] #[.pointer (some ⟨bs, 0, none⟩)]] w fun e w' => ∃ a k d, e = .returned (.slice a k d) ∧ Rc.NatW w' w.heap.size a k d (accs E).sum ∧ k ≤ 2 * (accs E).length + 1 ∧ SA w' K D g E Wn (x0 + 1 + (accs E).length) N ∧ Chg (· = g) w w' := by
  have hglt : g < w.heap.size := hS.lt hS.top
  have hbg : bs ≠ g := fun e => by
    obtain ⟨cs, k⟩ := hS.kv
    subst e
    exact absurd (hbs.eq k).2 (by decide)
  have HS := hid3 hS
  have HBS := hid3 hbs
  clear hS hbs
  refine (callsIn_wide (n := 0)).1 ?_
  refine callsIn_of_wp_marks Tryz.func40 rfl trivial ?_ rfl
  simp only [Tryz.ntmps40, List.size_toArray, List.length_cons, List.length_nil, Nat.reduceAdd, Nat.reduceSub, Array.replicate_succ, Array.replicate_zero, List.push_toArray, List.append_toArray, List.nil_append, List.cons_append]
  gi_wp2_with (refine ⟨trivial, rfl, ?_⟩; gi_at_call 22; refine (callsIn_wide.2 (wOf (x := 0) (by decide) (by decide))).mono ?_; rintro e' w1 ⟨a0, k0, d0, rfl, N0, hk0, B1⟩)
  have A1 := below_alloc w1 (.cells #[.slice a0 k0 d0] 49)
  have T1 := blk_new w1 [.slice a0 k0 d0] 49
  have z1 : (w1.alloc (.cells #[.slice a0 k0 d0] 49)).heap.size = w1.heap.size + 1 := by simp
  have zw := B1.size
  have S1 := sum_at N0 zw _ A1
  obtain ⟨Wb, hWb⟩ : ∃ Wb, Hid (w1.alloc (.cells #[.slice a0 k0 d0] 49) = Wb) := ⟨_, rfl⟩
  rw [hWb.out] at A1 T1 z1 S1 ⊢
  have BB := joinB B1 A1
  have SB := HS.out.keep BB
  have bB := HBS.out.keep BB
  have hKt : ∀ b, K b → b < w.heap.size := fun b hb => HS.out.lt hb
  have IT := coins_itr (X := fun b => b = g ∨ b = w1.heap.size) SB bB (fun h => by have := HBS.out.lt; rcases h with h | h <;> omega) (fun b hb => hb.elim .inl (fun e => .inr (fun hk => by have := hKt b hk; omega))) (fun b hb => by rcases hb with h | h <;> omega) hN hx
  have I0 : TotI Wb w.heap.size w1.heap.size K D g E Wn N x0 0 Wb := ⟨Chg.refl _ _, SB, a0, k0, d0, T1, by simpa using S1, by omega⟩
  have HB := hid3 BB
  have HT := hid3 T1
  clear S1 SB bB T1 A1 B1 N0 BB
  refine rf_outerD IT (by rfl) (enters_of Tryz.func67 (by kernel_rfl) rfl) (fun i args n V V' h hc => h) (fun i args n V h => by obtain ⟨c, _, rfl⟩ := h; rfl)
    (fun V => TotI Wb w.heap.size w1.heap.size K D g E Wn N x0 0 V)
    (fun i V => TotI Wb w.heap.size w1.heap.size K D g E Wn N (x0 + 1 + i) i V)
    (fun i V => TotI Wb w.heap.size w1.heap.size K D g E Wn N (x0 + 1 + i + 1) i V)
    (fun c i V => False)
    (fun A B hx hr => hx.rcd hr) (fun i A B hx hr => hx.rcd hr) (fun i A B hx hr => hx.rcd hr) (fun c i A B hx hr => hx) (by omega)
    (fun V hv => by have q := hv.sa.cnt; exact ⟨q.1, q.2, hv.rd, hv.tick hglt⟩)
    (fun i V hv => by have q := hv.sa.cnt; exact ⟨q.1, q.2, hv.rd, fun _ => hv.tick hglt⟩)
    I0 ?_ ?_ ?_
  · rintro l2 i args V Wv hl hlV hrec hiN hT hb ⟨c, hc, rfl⟩
    simp
    gi_wp2
    refine ⟨Below.refl _ _, ?_⟩
    intro V2 W2 hT2 hb2 hAr2 hoth hsz3 hV2 r hrec2
    obtain ⟨a, k, d, h1, h2, h3⟩ := hT2.out
    have hcr := accs_rng hT2.sa hc
    have hbD := joinB hb2 (belowD W2)
    have P0 := h1.keep hbD
    have Q0 := h2.keep hbD
    have hil : (accs E).length ≤ N := Nat.le_trans (by unfold accs; rw [List.length_map]; exact List.length_filter_le _ _) hT2.sa.size
    have hws := hT2.chg.size
    clear hb hT hoth h1 h2
    gi_wp2
    refine iz_start (z := 4) (S := fun w' => Blk w' w1.heap.size [.slice a k d] 49) (by kernel_rfl) ?_
    refine iz_load 0 (some 8) (.slice a k d) 49 3 w1.heap.size 0 (by kernel_rfl) (by kernel_rfl) (by kernel_rfl) (by kernel_rfl) (by kernel_rfl) (fun w' h => ld_n h) (fun _ _ _ h => h) P0 ?_
    refine iz_take 1 (some 9) (.int .u64 c) (by kernel_rfl) (by kernel_rfl) (by kernel_rfl) (fun _ _ => by kernel_rfl) (fun _ _ _ h => h) P0 ?_
    refine iz_call 2 (some 10) 22 #[.int .u64 c] (by kernel_rfl) (by kernel_rfl) (by kernel_rfl) (wOf hcr.1 hcr.2) ?_
    rintro e' w3 ⟨a3, k3, d3, rfl, N3, hk3, B3⟩
    refine ⟨_, rfl, P0.keep B3, ?_⟩
    refine iz_call 3 (some 11) 21 #[.slice a k d, .slice a3 k3 d3] (by kernel_rfl) (by kernel_rfl) (by kernel_rfl) (wAdd (Q0.keep B3).w.o.a N3.o.a (by omega) (by omega)) ?_
    rintro e' w4 ⟨a4, k4, d4, rfl, N4, hk4, B4⟩
    have P4 := (P0.keep B3).keep B4
    refine ⟨_, rfl, P4, ?_⟩
    refine iz_last (w4.setCell ⟨w1.heap.size, 0, none⟩ (.slice a4 k4 d4)) (by kernel_rfl) (by kernel_rfl) (run_sn 3 11 (by kernel_rfl) (by kernel_rfl) (by kernel_rfl) P4) ?_
    refine iz_done (by kernel_rfl) ?_
    simp only [Act.put, List.setIfInBounds_toArray, List.set_cons_zero, List.set_cons_succ]
    have hC : Chg (· = w1.heap.size) w4 (w4.setCell ⟨w1.heap.size, 0, none⟩ (.slice a4 k4 d4)) := (Chg.refl (fun x => x = w1.heap.size) w4).cell (.inl (by rfl)) _
    have S6 := P4.setCell (i := 0) (.slice a4 k4 d4)
    have B34 := joinB (joinB (belowD W2) B3) B4
    have s3 := B3.size
    have s4 := B4.size
    have sD : W2.drew.heap.size = W2.heap.size := rfl
    have s2 := hb2.size
    have N5 : SumA w4 w.heap.size w1.heap.size a4 k4 d4 ((accs E).take (i + 1)).sum := by
      rw [List.take_add_one, hc, List.sum_append]
      simpa using (sum_of N4 (t := w1.heap.size) (by omega)).low (B' := w.heap.size) (by omega)
    refine ⟨(KeepsT.of B34).trans ⟨hC.size, fun k o hk h0 _ => (hC.same k (lt_of_block h0) (by omega)).trans h0⟩, ?_, ?_, a4, k4, d4, S6, N5.off (fun b _ hn hl => hC.same b hl hn), by omega⟩
    · exact ((hT2.chg.trans (Chg.of (F := fun _ => False) (joinB hb2 B34)) (fun _ _ h => h.elim))).trans hC (fun b _ h => .inr h)
    · have hq := (hT2.sa.keep (joinB hb2 B34)).chg hC (fun b e hk => by have e' : b = w1.heap.size := e; have := hKt b hk; omega) (fun b e cs kk => by
        have e' : b = w1.heap.size := e
        subst e'
        exact absurd (kk.eq P4).2 (by decide))
      rw [show x0 + 1 + (i + 1) = x0 + 1 + i + 1 by omega]
      exact hq
  · rintro D' W' hD hK hT
    obtain ⟨a, k, d, h1, h2, h3⟩ := hT.out
    have h1c := h1.cell (i := 0) rfl
    have R3 := Rec.put hK rfl hD (.deferred none)
    have hT3 := hT.rcd R3
    have HH2 := hid3 h2
    clear h2
    gi_wp2
    refine ⟨by simp, .inl ⟨_, _, rfl, run_takeDeferred hK, ?_⟩⟩
    refine ⟨_, results_tmp rfl _ _ _, a, k, d, rfl, ?_, h3, hT3.sa, ?_⟩
    · have := (HH2.out.cel R3.cel).w
      rwa [List.take_length] at this
    · exact (Chg.of (F := (· = g)) HB.out).trans hT3.chg (fun b hl e => e.elim id (fun e => by omega))
  · rintro D' c i W' hD hK hiN h
    exact h.elim
end Bk
end Go.Proofs.YtfpclhjmfpfhiaaGreat
namespace Go.Proofs.YtfpclhjmfpfhiaaGreat
namespace Bk
open Go.RowKit Go.Lib Pg Lim Kv
attribute [local go_sem] Oper.semAt_some
set_option maxHeartbeats 2000000 in
set_option maxRecDepth 100000 in
theorem coins_mk {w:World} {p:Option Addr}:Calls Tryz.prog 41 #[.pointer p] w fun e w'=>e=.returned (.func (.func 67) #[] #[.pointer (some ⟨w.heap.size,0,none⟩)])/\Blk w' w.heap.size [.pointer p] 24/\Below w.heap.size w w':=by
 have b1:=below_alloc w (.cells #[.pointer p] 24)
 have c1:=blk_new w [.pointer p] 24
 go_enter Tryz.func41,Tryz.ntmps41
 go_wp2
 go_ret
 exact ⟨rfl,c1,b1⟩
structure SumE (B:Nat) (w:World) (K:Nat->Prop) (g:Nat) (E:Ents) (W:List Ents) (n N:Nat) (e:Ending) (w':World):Prop where
 ex:∃ a k d,e=.returned (.slice a k d)/\Rc.NatW w' w.heap.size a k d (accs E).sum/\k<=2 * (accs E).length + 1/\Sx B w' K g E W (n + 1 + (accs E).length) N/\Chg (· = g) w w'
set_option maxHeartbeats 2000000 in
set_option maxRecDepth 100000 in
theorem sum_any {B:Nat} {w:World} {K:Nat->Prop} {g:Nat} {E:Ents} {W:List Ents} {n N:Nat} (h:Sx B w K g E W n N) (hN:N<=100000000) (hx:n + N<=2000000000000000000):Calls Tryz.prog 19 #[.pointer (some ⟨g,0,none⟩)] w (SumE B w K g E W n N):=by
 have HS:=hid3 h
 clear h
 go_enter Tryz.func19,Tryz.ntmps19
 go_wp2_with first
  | (go_at_call 41; go_must (refine coins_mk.mono ?_); rintro e w1 ⟨rfl,c1,B1⟩; have tT:=total_any (HS.out.sa.keep B1) c1 hN hx)
  | (go_at_call 40; go_must (refine tT.mono ?_); rintro e w2 ⟨a,k,d,rfl,N2,hk,S2,C2⟩; clear tT)
 go_ret
 exact ⟨a,k,d,rfl,N2.low B1.size,hk,⟨S2,Nat.le_trans HS.out.lo (Nat.le_trans B1.size C2.size),HS.out.kb⟩,(Chg.of B1).trans C2 (fun _ _ h=>h)⟩
end Bk
end Go.Proofs.YtfpclhjmfpfhiaaGreat
namespace Go.Proofs.YtfpclhjmfpfhiaaGreat
namespace Bk
open Go.RowKit Go.Lib Pg Lim Gl Kv
attribute [local go_sem] Oper.semAt_some
theorem snewX {w:World}:Calls Tryz.prog 7 #[] w fun e w'=>∃ g K,e=.returned (pg g)/\Sx w.heap.size w' K g [] [] 0 0/\(∀ b,K b->w.heap.size<=b)/\Below w.heap.size w w':=by
 refine snew.mono ?_
 rintro e w' ⟨g,K,rfl,S,hK,B⟩
 exact ⟨g,K,rfl,⟨S.mono (fun _ _ h=>h.elim),B.size,hK⟩,hK,B⟩
section
variable {B:Nat} {w:World} {K:Nat->Prop} {g:Nat} {E E':Ents} {W:List Ents} {n N P:Nat} {args:Array Value} {r r':Value}
theorem SxF.cast (h:Calls Tryz.prog P args w (SxF B w K g E W n N r)) (hE:E=E') (hr:r=r'):Calls Tryz.prog P args w (SxF B w K g E' W n N r'):=by subst hE hr; exact h
theorem SxE.cast (h:Calls Tryz.prog P args w (SxE B w K g E W n N r)) (hr:r=r'):Calls Tryz.prog P args w (SxE B w K g E W n N r'):=by subst hr; exact h
theorem dumpL {m:Nat} (h:Sx B w K g E W n N) (hN:N<=100000000) (hm:E.length=m):Calls Tryz.prog 17 #[pg g] w fun e w'=>∃ a c,e=.returned (.slice a m c)/\Below w.heap.size w w':=by
 refine (sdump h.sa hN).mono ?_
 rintro e w' ⟨v,es,rfl,P,he,B⟩
 obtain ⟨a,c,rfl⟩:=P.shape
 have hl:es.length=m:=by rw [<- hm,<- he,List.length_map]
 rw [hl]
 exact ⟨a,c,rfl,B⟩
end
theorem nat5 {w:World} {B b k d:Nat} {a:Option Addr} {x:Int} (h:Rc.NatW w B a k d x) (X:Blk w b [.int .u64 5] 31) (hx:x=5) (hk:k<=1000):Calls Tryz.prog 18 #[.slice a k d,sg 1 b] w fun e w'=>e=.returned (.bool true)/\Below w.heap.size w w':=by
 subst hx
 have O5:NatO w (some ⟨b,0,none⟩) 1 1 5:=⟨b,0,[5],rfl,Nat.le_refl _,by refine ⟨fun y hy => ?_,by rfl,by decide⟩; simp at hy; subst hy; decide,⟨.inr rfl,fun i hi=>by
  obtain rfl:i=0:=by simp at hi; omega
  exact X.cell (i:=0) rfl⟩⟩
 have t:=nSame h.o O5 (by omega) (by omega)
 simpa using t
def kE1:Ents:=mintE [] 16 5
def kE2:Ents:=moveE kE1 16 17 5
def kE3:Ents:=bumpE kE2 16
theorem k3len:(accs kE3).length=2:=by kernel_rfl
set_option maxRecDepth 100000
set_option maxHeartbeats 2000000
set_option linter.unusedVariables false
theorem known9 {w:World}:Calls Tryz.prog 6 #[] w fun e w'=>e=.returned (.bool true)/\Below w.heap.size w w':=by
 refine gc_enter (n:=68) Tryz.func6 rfl (by kernel_rfl) (by kernel_rfl) ?_
 refine gc_seq ?_
 refine gc_reg ?_
 refine t 0 (.bool false) ?_
 refine gl_nil ?_
 refine ge_then ?_
 refine gc_seq ?_
 refine gc_reg ?_
 refine tc 4 7 #[] (snewX) ?_
 rintro _ v1 ⟨g0,K0,rfl,S0,hK0,B0⟩
 refine ⟨_,rfl,?_⟩
 have A:=S0.at
 clear S0
 refine t 1 (pg g0) ?_
 refine gl_nil ?_
 refine ge_then ?_
 refine gc_seq ?_
 refine gc_seq ?_
 refine gc_reg ?_
 refine t 5 (pg g0) ?_
 refine t 6 (.bool false) ?_
 refine gl_nil ?_
 refine ge_then ?_
 refine gc_no ?_
 refine gc_skip ?_
 refine ge_then ?_
 refine gc_seq ?_
 refine gc_reg ?_
 refine t 7 (pg g0) ?_
 refine tc 8 8 #[pg g0,.int .u64 16,.int .u64 5] (SxF.cast (E':=kE1) (r':=.int .i64 0) (mint_any (k:=5) (id:=16) A.sx (by decide) (by decide) (by omega) (by omega)) (by kernel_rfl) (by kernel_rfl)) ?_
 rintro _ v5 ⟨rfl,K2,n3,N4,S,qn3,qN4,hK,hC⟩
 refine ⟨_,rfl,?_⟩
 replace A:=A.op S hK hC
 clear S hK hC
 refine t 2 (.int .i64 0) ?_
 refine gl_nil ?_
 refine ge_then ?_
 refine gc_seq ?_
 refine gc_reg ?_
 refine t 9 (pg g0) ?_
 refine tc 10 10 #[pg g0,.int .u64 16,.int .u64 17,.int .u64 5] (SxF.cast (E':=kE2) (r':=.int .i64 0) (move_any (k:=5) (a:=16) (b:=17) A.sx (by decide) (by decide) (by decide) (by omega) (by omega)) (by kernel_rfl) (by kernel_rfl)) ?_
 rintro _ v9 ⟨rfl,K6,n7,N8,S,qn7,qN8,hK,hC⟩
 refine ⟨_,rfl,?_⟩
 replace A:=A.op S hK hC
 clear S hK hC
 refine t 3 (.int .i64 0) ?_
 refine gl_nil ?_
 refine ge_then ?_
 refine gc_seq ?_
 refine gc_seq ?_
 refine gc_reg ?_
 refine t 11 (.int .i64 0) ?_
 refine t 12 (.int .i64 0) ?_
 refine t 13 (.int .i64 0) ?_
 refine t 14 (.bool false) ?_
 refine t 15 (.bool false) ?_
 refine t 16 (pg g0) ?_
 refine tc 17 17 #[pg g0] (dumpL (m:=1) A.sx (by omega) (by kernel_rfl)) ?_
 rintro _ v11 ⟨da10,da10c,rfl,B⟩
 refine ⟨_,rfl,?_⟩
 replace A:=A.keep B
 clear B
 refine t 18 (.int .i64 1) ?_
 refine t 19 (.bool false) ?_
 refine t 20 (.bool false) ?_
 refine t 21 (.bool false) ?_
 refine t 22 (pg g0) ?_
 refine tc 23 14 #[pg g0,.int .u64 17] (SxE.cast (r':=.agg #[.int .u64 5,.int .u64 0]) (get_any (id:=17) A.sx (by decide) (by omega) (by omega)) (by kernel_rfl)) ?_
 rintro _ v13 ⟨rfl,K12,S,hK,hC⟩
 refine ⟨_,rfl,?_⟩
 replace A:=A.op S hK hC
 clear S hK hC
 refine t 24 (.agg #[.int .u64 5,.int .u64 0]) ?_
 refine t 25 (.bool false) ?_
 refine t 26 (.bool false) ?_
 refine t 27 (.bool false) ?_
 refine t 28 (pg g0) ?_
 refine tc 29 10 #[pg g0,.int .u64 17,.int .u64 16,.int .u64 6] (SxF.cast (E':=kE2) (r':=.int .i64 90) (move_any (k:=6) (a:=17) (b:=16) A.sx (by decide) (by decide) (by decide) (by omega) (by omega)) (by kernel_rfl) (by kernel_rfl)) ?_
 rintro _ v17 ⟨rfl,K14,n15,N16,S,qn15,qN16,hK,hC⟩
 refine ⟨_,rfl,?_⟩
 replace A:=A.op S hK hC
 clear S hK hC
 refine t 30 (.bool false) ?_
 refine t 31 (.bool false) ?_
 refine t 32 (.bool false) ?_
 refine t 33 (pg g0) ?_
 refine tc 34 10 #[pg g0,.int .u64 17,.int .u64 17,.int .u64 5] (SxF.cast (E':=kE2) (r':=.int .i64 0) (move_any (k:=5) (a:=17) (b:=17) A.sx (by decide) (by decide) (by decide) (by omega) (by omega)) (by kernel_rfl) (by kernel_rfl)) ?_
 rintro _ v21 ⟨rfl,K18,n19,N20,S,qn19,qN20,hK,hC⟩
 refine ⟨_,rfl,?_⟩
 replace A:=A.op S hK hC
 clear S hK hC
 refine t 35 (.bool false) ?_
 refine t 36 (.bool false) ?_
 refine t 37 (.bool false) ?_
 refine t 38 (pg g0) ?_
 refine tc 39 8 #[pg g0,.int .u64 5,.int .u64 1] (SxF.cast (E':=kE2) (r':=.int .i64 92) (mint_any (k:=1) (id:=5) A.sx (by decide) (by decide) (by omega) (by omega)) (by kernel_rfl) (by kernel_rfl)) ?_
 rintro _ v25 ⟨rfl,K22,n23,N24,S,qn23,qN24,hK,hC⟩
 refine ⟨_,rfl,?_⟩
 replace A:=A.op S hK hC
 clear S hK hC
 refine t 40 (.bool false) ?_
 refine t 41 (.bool false) ?_
 refine t 42 (.bool false) ?_
 refine t 43 (pg g0) ?_
 refine tc 44 8 #[pg g0,.int .u64 17,.int .u64 1000000000000000000] (SxF.cast (E':=kE2) (r':=.int .i64 91) (mint_any (k:=1000000000000000000) (id:=17) A.sx (by decide) (by decide) (by omega) (by omega)) (by kernel_rfl) (by kernel_rfl)) ?_
 rintro _ v29 ⟨rfl,K26,n27,N28,S,qn27,qN28,hK,hC⟩
 refine ⟨_,rfl,?_⟩
 replace A:=A.op S hK hC
 clear S hK hC
 refine t 45 (.bool false) ?_
 refine t 46 (.bool false) ?_
 refine gl_nil ?_
 refine ge_then ?_
 refine gc_fr [(0,.bool false),(1,pg g0),(46,.bool false)] (by kernel_rfl) ?_
 refine gc_no ?_
 refine gc_skip ?_
 refine ge_then ?_
 refine gc_seq ?_
 refine gc_reg ?_
 refine t 47 (pg g0) ?_
 refine tc 48 12 #[pg g0,.int .u64 16] (SxF.cast (E':=kE3) (r':=.int .i64 0) (bump_any (id:=16) A.sx (by decide) (by omega) (by omega)) (by kernel_rfl) (by kernel_rfl)) ?_
 rintro _ v33 ⟨rfl,K30,n31,N32,S,qn31,qN32,hK,hC⟩
 refine ⟨_,rfl,?_⟩
 replace A:=A.op S hK hC
 clear S hK hC
 refine t 49 (.bool true) ?_
 refine t 50 (.bool true) ?_
 refine t 51 (pg g0) ?_
 refine tc 52 14 #[pg g0,.int .u64 16] (SxE.cast (r':=.agg #[.int .u64 0,.int .u64 1]) (get_any (id:=16) A.sx (by decide) (by omega) (by omega)) (by kernel_rfl)) ?_
 rintro _ v35 ⟨rfl,K34,S,hK,hC⟩
 refine ⟨_,rfl,?_⟩
 replace A:=A.op S hK hC
 clear S hK hC
 refine t 53 (.agg #[.int .u64 0,.int .u64 1]) ?_
 refine t 54 (.bool true) ?_
 refine t 55 (.bool true) ?_
 refine t 56 (.bool true) ?_
 refine t 57 (pg g0) ?_
 refine tc 58 19 #[pg g0] (sum_any A.sx (by omega) (by omega)) ?_
 rintro _ v37 ⟨sa36,sa36k,sa36d,rfl,Osa36,hsa36,S,C⟩
 refine ⟨_,rfl,?_⟩
 have hC:=C.mono (fun b _ (e:b=g0)=>e▸A.sx.sa.top)
 replace A:=A.op S (fun _ h=>.inl h) hC
 clear S hC C
 refine ta 59 [.int .u64 5] 31 (sg 1) ?_
 intro v38 g39 Xg39 hg39 B
 have zg39:=Nat.le_trans A.size hg39
 have nXg39:=A.new hg39
 replace A:=A.keep B
 replace Osa36:=Rc.NatW.keep Osa36 B
 clear B
 refine tc 60 18 #[.slice sa36 sa36k sa36d,sg 1 g39] (nat5 Osa36 Xg39 (by kernel_rfl) (by rw [k3len] at hsa36; omega)) ?_
 rintro _ v40 ⟨rfl,B⟩
 refine ⟨_,rfl,?_⟩
 replace A:=A.keep B
 replace Osa36:=Rc.NatW.keep Osa36 B
 replace Xg39:=Xg39.keep B
 clear B
 clear Osa36
 refine t 61 (.bool true) ?_
 refine t 62 (.bool true) ?_
 refine t 63 (pg g0) ?_
 refine tc 64 17 #[pg g0] (dumpL (m:=2) A.sx (by omega) (by kernel_rfl)) ?_
 rintro _ v42 ⟨da41,da41c,rfl,B⟩
 refine ⟨_,rfl,?_⟩
 replace A:=A.keep B
 replace Xg39:=Xg39.keep B
 clear B
 refine t 65 (.int .i64 2) ?_
 refine t 66 (.bool true) ?_
 refine t 67 (.bool true) ?_
 refine t 0 (.bool true) ?_
 refine gl_nil ?_
 refine ge_then ?_
 refine gc_fr [(0,.bool true)] (by kernel_rfl) ?_
 refine gc_ret ?_
 refine ge_ret (.bool true) (rs1 0 (by kernel_rfl) (by kernel_rfl)) ?_
 exact ⟨rfl,((Chg.of (F:=fun _=>False) B0).trans A.cc (fun b hl hk=>by have:=hK0 b hk; omega)).nothing⟩
end Bk
end Go.Proofs.YtfpclhjmfpfhiaaGreat
namespace Go.Proofs.YtfpclhjmfpfhiaaGreat
namespace Kv
open Go.RowKit Go.Lib Pg
attribute [local go_sem] Oper.semAt_some
theorem under_bytes:Tryz.prog.underlying 71=some (.slice 5):=by kernel_rfl
theorem size_al (w:World) (o:Obj):(w.alloc o).heap.size=w.heap.size + 1:=by
 show (w.heap.push o).size=_
 rw [Array.size_push]
end Kv
end Go.Proofs.YtfpclhjmfpfhiaaGreat
namespace Go.Proofs.YtfpclhjmfpfhiaaGreat
namespace Kv
open Go.RowKit Go.Lib Pg
attribute [local go_sem] Oper.semAt_some
structure Ste where
 what:Int
 num:Int
 ka:Option Addr
 kc:Nat
 kl:List Int
 va:Option Addr
 vc:Nat
 vl:List Int
def Ste.kv (s:Ste):Value:=.slice s.ka s.kl.length s.kc
def Ste.vv (s:Ste):Value:=.slice s.va s.vl.length s.vc
structure SteA (w:World) (s:Ste):Prop where
 w1 : -9223372036854775808<=s.what
 w2:s.what<=9223372036854775807
 n1 : -9223372036854775808<=s.num
 n2:s.num<=9223372036854775807
 k:By w s.kv s.kl
 kb:s.kl.length<=140737488355328
 v:By w s.vv s.vl
 vb:s.vl.length<=140737488355328
theorem SteA.keep {w w':World} {s:Ste} (h:SteA w s) (hb:Below w.heap.size w w'):SteA w' s:=⟨h.w1,h.w2,h.n1,h.n2,h.k.keep hb,h.kb,h.v.keep hb,h.vb⟩
structure SteC (w:World) (b o:Nat) (s:Ste):Prop where
 c0:w.cell? ⟨b,o,none⟩=some (.int .i64 s.what)
 c1:w.cell? ⟨b,o + 1,none⟩=some (.int .i64 s.num)
 c2:w.cell? ⟨b,o + 2,none⟩=some s.kv
 c3:w.cell? ⟨b,o + 3,none⟩=some s.vv
theorem SteC.keep {w w':World} {b o:Nat} {s:Ste} (h:SteC w b o s) (hb:Below w.heap.size w w'):SteC w' b o s:=by
 have k:∀ {q:Nat} {v:Value},w.cell? ⟨b,q,none⟩=some v->w'.cell? ⟨b,q,none⟩=some v:=fun {q v} hc=>by
  have hlt:=cell_lt hc
  rw [World.cell?_of_block (w:=w) (hb.block b hlt)]
  exact hc
 exact ⟨k h.c0,k h.c1,k h.c2,k h.c3⟩
structure StesA (w:World) (ao:Option Addr) (n:Nat) (ss:List Ste):Prop where
 len:ss.length=n
 le:n<=9223372036854775807
 get:∀ i s,ss[i]? = some s->∃ b o,ao=some ⟨b,o,none⟩/\SteC w b (o + i * 4) s/\SteA w s
theorem StesA.keep {w w':World} {ao:Option Addr} {n:Nat} {ss:List Ste} (h:StesA w ao n ss) (hb:Below w.heap.size w w'):StesA w' ao n ss :=
 ⟨h.len,h.le,fun i s hs=>by
  obtain ⟨b,o,h1,h2,h3⟩:=h.get i s hs
  exact ⟨b,o,h1,h2.keep hb,h3.keep hb⟩⟩
theorem StesA.at {w:World} {ao:Option Addr} {n:Nat} {ss:List Ste} (h:StesA w ao n ss) {i:Nat} (hi:i < n):∃ s b o,ss[i]? = some s/\ao=some ⟨b,o,none⟩/\SteC w b (o + i * 4) s/\SteA w s:=by
 have hl:=h.len
 have e:ss[i]? = some ss[i]:=List.getElem?_eq_getElem (by omega)
 obtain ⟨b,o,h1,h2,h3⟩:=h.get i _ e
 exact ⟨_,b,o,e,h1,h2,h3⟩
end Kv
end Go.Proofs.YtfpclhjmfpfhiaaGreat
namespace Go.Proofs.YtfpclhjmfpfhiaaGreat
namespace Kv
open Go.RowKit Go.Lib Pg
attribute [local go_sem] Oper.semAt_some
theorem belowD' (w:World):Below w.heap.size w w.drew:=⟨rfl,rfl,rfl,Nat.le_refl _,fun _ _=>rfl⟩
structure KB (w0 w:World) (f:Fm) (g:Nat) (E:Ents) (W:List Ents) (B:Nat):Prop where
 ex:∃ n N,Kn w0 w f g E W n N/\n<=10 * B/\N<=2 * B
def setd (E:Ents) (k v:List Int):Ents:=if setE k v=0 then put E k v else E
theorem KB.keep {w0 w:World} {f:Fm} {g:Nat} {E:Ents} {W:List Ents} {B:Nat} (h:KB w0 w f g E W B) {w':World} (hb:Below w.heap.size w w'):KB w0 w' f g E W B:=by
 obtain ⟨n,N,h,h1,h2⟩:=h.ex
 exact ⟨n,N,h.keep hb,h1,h2⟩
theorem KB.drew {w0 w:World} {f:Fm} {g:Nat} {E:Ents} {W:List Ents} {B:Nat} (h:KB w0 w f g E W B):KB w0 w.drew f g E W B:=h.keep (belowD' w)
theorem KB.below {w0 w:World} {f:Fm} {g:Nat} {E:Ents} {W:List Ents} {B:Nat} (h:KB w0 w f g E W B):Below w0.heap.size w0 w:=by
 obtain ⟨n,N,h,h1,h2⟩:=h.ex
 exact h.below
theorem KB.more {w0 w:World} {f:Fm} {g:Nat} {E:Ents} {W:List Ents} {B:Nat} {B':Nat} (h:KB w0 w f g E W B) (hB:B<=B'):KB w0 w f g E W B':=by
 obtain ⟨n,N,h,h1,h2⟩:=h.ex
 exact ⟨n,N,h,by omega,by omega⟩
theorem KB.rise {w0 w:World} {f:Fm} {g:Nat} {E:Ents} {W:List Ents} {B:Nat} (h:KB w0 w f g E W B):Rise E:=by
 obtain ⟨n,N,h,h1,h2⟩:=h.ex
 exact h.rise
theorem KB.size {w0 w:World} {f:Fm} {g:Nat} {E:Ents} {W:List Ents} {B:Nat} (h:KB w0 w f g E W B):E.length<=2 * B:=by
 obtain ⟨n,N,h,h1,h2⟩:=h.ex
 have:=h.size
 omega
theorem KB.small {w0 w:World} {f:Fm} {g:Nat} {E:Ents} {W:List Ents} {B:Nat} (h:KB w0 w f g E W B):∀ x∈E,x.1.length<=1000000000/\x.2.length<=1000000000:=by
 obtain ⟨n,N,h,h1,h2⟩:=h.ex
 obtain ⟨K,h⟩:=h.ex
 exact h.sa.small
structure FinR (w0:World) (f:Fm) (g:Nat) (E:Ents) (W:List Ents) (B:Nat) (F:Ents) (e:Ending) (w':World):Prop where
 ex:∃ ao n c,e=.returned (.slice ao n c)/\KB w0 w' (f.pr (.slice ao n c) F) g E W B
def chgd (E:Ents) (what:Int) (k v:List Int):Ents:=if what.tmod 2=0 then setd E k v else rem E k
end Kv
end Go.Proofs.YtfpclhjmfpfhiaaGreat
namespace Go.Proofs.YtfpclhjmfpfhiaaGreat
namespace Kv
open Go.RowKit Go.Lib Pg
structure K2 (w0 w:World) (f:Fm) (g:Nat) (E:Ents) (W:List Ents) (g2:Nat) (E2:Ents) (W2:List Ents) (B:Nat):Prop where
 ex:∃ n2 N2,KB w0 w (f.st ⟨g2,E2,W2,n2,N2⟩) g E W B/\n2<=10 * B/\N2<=2 * B
theorem K2.keep {w0 w w':World} {f:Fm} {g g2:Nat} {E E2:Ents} {W W2:List Ents} {B:Nat} (h:K2 w0 w f g E W g2 E2 W2 B) (hb:Below w.heap.size w w'):K2 w0 w' f g E W g2 E2 W2 B:=by
 obtain ⟨n2,N2,h,h1,h2⟩:=h.ex
 exact ⟨n2,N2,h.keep hb,h1,h2⟩
theorem K2.drew {w0 w:World} {f:Fm} {g g2:Nat} {E E2:Ents} {W W2:List Ents} {B:Nat} (h:K2 w0 w f g E W g2 E2 W2 B):K2 w0 w.drew f g E W g2 E2 W2 B:=h.keep (belowD' w)
theorem K2.below {w0 w:World} {f:Fm} {g g2:Nat} {E E2:Ents} {W W2:List Ents} {B:Nat} (h:K2 w0 w f g E W g2 E2 W2 B):Below w0.heap.size w0 w:=by
 obtain ⟨n2,N2,h,h1,h2⟩:=h.ex
 exact h.below
theorem K2.more {w0 w:World} {f:Fm} {g g2:Nat} {E E2:Ents} {W W2:List Ents} {B B':Nat} (h:K2 w0 w f g E W g2 E2 W2 B) (hB:B<=B'):K2 w0 w f g E W g2 E2 W2 B':=by
 obtain ⟨n2,N2,h,h1,h2⟩:=h.ex
 exact ⟨n2,N2,h.more hB,by omega,by omega⟩
theorem K2.size {w0 w:World} {f:Fm} {g g2:Nat} {E E2:Ents} {W W2:List Ents} {B:Nat} (h:K2 w0 w f g E W g2 E2 W2 B):E.length<=2 * B:=by
 obtain ⟨n2,N2,h,h1,h2⟩:=h.ex
 exact h.size
theorem K2.small {w0 w:World} {f:Fm} {g g2:Nat} {E E2:Ents} {W W2:List Ents} {B:Nat} (h:K2 w0 w f g E W g2 E2 W2 B):∀ x∈E,x.1.length<=1000000000/\x.2.length<=1000000000:=by
 obtain ⟨n2,N2,h,h1,h2⟩:=h.ex
 exact h.small
end Kv
end Go.Proofs.YtfpclhjmfpfhiaaGreat
namespace Go.Proofs.YtfpclhjmfpfhiaaGreat
namespace Kv
open Go.RowKit Go.Lib Pg
theorem Kn.drop {w0 w:World} {f:Fm} {g:Nat} {E:Ents} {W:List Ents} {n N:Nat} {v:Value} {l:List Int} (h:Kn w0 w (f.by v l) g E W n N):Kn w0 w f g E W n N:=by
 obtain ⟨K,h⟩:=h.ex
 exact ⟨K,h.sa,h.kz,fun p hp=>h.bys p (List.mem_cons_of_mem _ hp),h.prs,h.oth,h.bel⟩
theorem K2.drop {w0 w:World} {f:Fm} {g g2:Nat} {E E2:Ents} {W W2:List Ents} {B:Nat} {v:Value} {l:List Int} (h:K2 w0 w (f.by v l) g E W g2 E2 W2 B):K2 w0 w f g E W g2 E2 W2 B:=by
 obtain ⟨n2,N2,h,h1,h2⟩:=h.ex
 obtain ⟨n,N,h,h3,h4⟩:=h.ex
 exact ⟨n2,N2,⟨n,N,Kn.drop (v:=v) (l:=l) h,h3,h4⟩,h1,h2⟩
end Kv
end Go.Proofs.YtfpclhjmfpfhiaaGreat
namespace Go.Proofs.YtfpclhjmfpfhiaaGreat
namespace Kv
open Go.RowKit Go.Lib Pg
theorem look_skip {X Y:Ents} {k v x:List Int} (h:¬ k=x):look (X ++ (k,v) :: Y) x=look (X ++ Y) x:=by
 unfold look
 rw [List.find?_append,List.find?_append,List.find?_cons]
 simp [h]
theorem look_put {E:Ents} (h:Rise E) (k v x:List Int):look (put E k v) x=if k=x then some v else look E x:=by
 obtain ⟨X,Y,c,⟨rfl,_⟩ | ⟨y,rfl,_⟩⟩:=h.cut k
 ·rw [c.put0]
  split
  ·rename_i e; subst e; exact c.look1
  ·rename_i e; exact look_skip e
 ·rw [c.put1]
  split
  ·rename_i e; subst e; exact c.look1
  ·rename_i e; rw [look_skip e,look_skip e]
theorem look_rem {E:Ents} (h:Rise E) (k x:List Int):look (rem E k) x=if k=x then none else look E x:=by
 obtain ⟨X,Y,c,⟨rfl,_⟩ | ⟨y,rfl,_⟩⟩:=h.cut k
 ·rw [c.rem0]
  split
  ·rename_i e; subst e; exact c.look0
  ·rfl
 ·rw [c.rem1]
  split
  ·rename_i e; subst e; exact c.look0
  ·rename_i e; rw [look_skip e]
def good (s:Ste):Prop:=¬ s.what.tmod 2=0\/(1<=s.kl.length/\s.kl.length<=64/\s.vl.length<=4096)
instance (s:Ste):Decidable (good s):=by unfold good; infer_instance
def run (ss : List Ste) : Nat → Ents
  | 0 => []
  | j + 1 => match ss[j]? with
    | some s => chgd (run ss j) s.what s.kl s.vl
    | none => run ss j
theorem KB.drop {w0 w:World} {f:Fm} {g:Nat} {E:Ents} {W:List Ents} {B:Nat} {v:Value} {l:List Int} (h:KB w0 w (f.by v l) g E W B):KB w0 w f g E W B:=by
 obtain ⟨n,N,h,h3,h4⟩:=h.ex
 exact ⟨n,N,h.drop,h3,h4⟩
end Kv
end Go.Proofs.YtfpclhjmfpfhiaaGreat
namespace Go.Proofs.YtfpclhjmfpfhiaaGreat
namespace Bk
open Go.RowKit Go.Lib Pg Lim Kv
def U64 (x:Int):Prop:=0<=x/\x < 18446744073709551616
theorem ak_inj {a b:Int} (ha:U64 a) (hb:U64 b) (h:ak a=ak b):a=b:=by
 have e:∀ c,Ky.mkE ((4:Nat):Int) c 0=false:=fun c=>by
  unfold Ky.mkE
  rw [show (Ky.frm ((4:Nat):Int)).1=9 from rfl]
  simp
 exact (Ky.mk_inj (k:=4) (o:=4) (by decide) (by decide) (by decide) (by decide) ha (by decide) hb (by decide) (e a) (e b) h).2.1
theorem ak_pre (id:Int):[97] <+: ak id:=by
 unfold ak
 rw [Ky.mk_eq (k:=4) (n:=9) (m0:=97) (m1:=0) rfl]
 simp
theorem coinB_nil:coinB []=0:=by kernel_rfl
theorem seqB_nil:seqB []=0:=by kernel_rfl
def AllA (E:Ents):Prop:=∀ e∈E,[97] <+: e.1
theorem AllA.lay {E:Ents} (h:AllA E) (id x y:Int):AllA (layE E id x y):=by
 intro e he
 unfold layE at he
 split at he
 ·exact h e (rem_mem he)
 ·rcases put_mem he with h1 | rfl
  ·exact h e h1
  ·exact ak_pre id
theorem rise_lay {E:Ents} (h:Rise E) (id x y:Int):Rise (layE E id x y):=by
 unfold layE
 split
 ·exact h.rem _
 ·exact h.put _ _
section
variable {E:Ents} {id j x y:Int}
theorem look_lay (h:Rise E) (hid:U64 id) (hj:U64 j):Kv.look (layE E id x y) (ak j)=if id=j then (if x=0/\y=0 then none else some (pv x y)) else Kv.look E (ak j):=by
 have e:(ak id=ak j)<->id=j:=⟨ak_inj hid hj,fun e=>by rw [e]⟩
 unfold layE
 split
 ·rw [look_rem h]
  simp only [e]
 ·rw [look_put h]
  simp only [e]
theorem coin_lay (h:Rise E) (hid:U64 id) (hj:U64 j) (hx:U64 x) (hy:U64 y):coin (layE E id x y) j=if id=j then x else coin E j:=by
 unfold coin
 rw [look_lay h hid hj]
 split
 ·split
  ·rename_i c; rw [c.1]; exact coinB_nil
  ·exact (pv_back hx hy).1
 ·rfl
theorem seqn_lay (h:Rise E) (hid:U64 id) (hj:U64 j) (hx:U64 x) (hy:U64 y):seqn (layE E id x y) j=if id=j then y else seqn E j:=by
 unfold seqn
 rw [look_lay h hid hj]
 split
 ·split
  ·rename_i c; rw [c.2]; exact seqB_nil
  ·exact (pv_back hx hy).2
 ·rfl
end
structure Ok (E:Ents):Prop where
 rise:Rise E
 all:AllA E
 cr:∀ j,U64 (coin E j)
 sr:∀ j,U64 (seqn E j)
section
variable {E:Ents} {id a b k:Int}
theorem mint_no (h:mintR E id k≠0):mintE E id k=E:=if_neg h
theorem mint_yes (h:mintR E id k=0):mintE E id k=layE E id (coin E id + k) (seqn E id)/\holdsP (coin E id) k:=by
 refine ⟨if_pos h,?_⟩
 unfold mintR at h
 by_cases h1:isA id
 ·by_cases h2:holdsP (coin E id) k
  ·exact h2
  ·simp [h1,h2] at h
 ·simp [h1] at h
theorem mint_all (h:AllA E):AllA (mintE E id k):=by unfold mintE; split; exact h.lay _ _ _; exact h
theorem move_no (h:moveR E a b k≠0):moveE E a b k=E:=if_neg (fun c=>h c.1)
theorem move_same (h:a=b):moveE E a b k=E:=if_neg (fun c=>c.2 h)
theorem move_yes (h:moveR E a b k=0) (hab:a≠b):moveE E a b k=layE (layE E a (coin E a - k) (seqn E a)) b (coin E b + k) (seqn E b)/\k<=coin E a/\holdsP (coin E b) k:=by
 refine ⟨if_pos ⟨h,hab⟩,?_⟩
 unfold moveR at h
 by_cases h1:¬ isA a\/¬ isA b
 ·rw [if_pos h1] at h; simp at h
 ·rw [if_neg h1] at h
  by_cases h2:coin E a < k
  ·rw [if_pos h2] at h; simp at h
  ·rw [if_neg h2,if_neg hab] at h
   by_cases h3:holdsP (coin E b) k
   ·exact ⟨by omega,h3⟩
   ·rw [if_pos h3] at h; simp at h
theorem move_all (h:AllA E):AllA (moveE E a b k):=by unfold moveE; split; exact (h.lay _ _ _).lay _ _ _; exact h
theorem bump_no (h:bumpR id≠0):bumpE E id=E:=by
 unfold bumpR at h
 unfold bumpE
 by_cases h1:isA id
 ·simp [h1] at h
 ·rw [if_neg h1]
theorem bump_all (h:AllA E):AllA (bumpE E id):=by unfold bumpE; split; exact h.lay _ _ _; exact h
theorem bump_yes (h:bumpR id=0):bumpE E id=layE E id (coin E id) ((seqn E id + 1) % 18446744073709551616):=by
 unfold bumpR at h
 unfold bumpE
 by_cases h1:isA id
 ·rw [if_pos h1]
 ·simp [h1] at h
theorem mod_u (z:Int):U64 (z % 18446744073709551616):=⟨Int.emod_nonneg _ (by decide),Int.emod_lt_of_pos _ (by decide)⟩
end
end Bk
end Go.Proofs.YtfpclhjmfpfhiaaGreat
namespace Go.Proofs.YtfpclhjmfpfhiaaGreat
namespace Bk
open Go.RowKit Go.Lib Pg Lim Gl Kv
attribute [local go_sem] Oper.semAt_some
structure StpA (w:World) (ao:Option Addr) (n b o:Nat) (sw sa sb sn:Nat->Int):Prop where
 ptr:0 < n->ao=some ⟨b,o,none⟩
 cell:∀ i,i < n->w.cell? ⟨b,o + i * 4,none⟩=some (.int .i64 (sw i))/\w.cell? ⟨b,o + i * 4 + 1,none⟩=some (.int .u64 (sa i))/\w.cell? ⟨b,o + i * 4 + 2,none⟩=some (.int .u64 (sb i))/\w.cell? ⟨b,o + i * 4 + 3,none⟩=some (.int .u64 (sn i))
 rng:∀ i,i < n->U64 (sa i)/\U64 (sb i)/\U64 (sn i)
 few:n<=9223372036854775807
theorem cellB {w W:World} {b o:Nat} {v:Value} (B:Below w.heap.size w W) (h:w.cell? ⟨b,o,none⟩=some v):W.cell? ⟨b,o,none⟩=some v:=by
 rw [World.cell?_of_block (w:=w) (B.block b (cell_lt h))]; exact h
theorem run_ixa {P:Program} {ρ:Operand->Value} {o:Oper} {w:World} {ao:Option Addr} (sz b off n c k:Nat) (hk:k < n) (hao:0 < n->ao=some ⟨b,off,none⟩) (ho:∃ T x y,o.op=.indexAddr T x y/\slT P T sz=true/\ρ x=.slice ao n c/\ρ y=.int .i64 (k:Int):=by exact ⟨_,_,_,rfl,by kernel_rfl,by kernel_rfl,by kernel_rfl⟩):(execOp ρ o).run P w=.ok (.value (.pointer (some ⟨b,off + k * sz,none⟩))) w:=by
 rw [hao (by omega)] at ho
 exact run_ixs sz b off n c k hk ho
theorem ld_step {w:World} {g o:Nat} {a b c d:Value} (c0:w.cell? ⟨g,o,none⟩=some a) (c1:w.cell? ⟨g,o + 1,none⟩=some b) (c2:w.cell? ⟨g,o + 2,none⟩=some c) (c3:w.cell? ⟨g,o + 3,none⟩=some d):(loadVar 33 ⟨g,o,none⟩).run Tryz.prog w=.ok (.agg #[a,b,c,d]) w:=by go_simp
theorem run_lds {ρ:Operand->Value} {o:Oper} {w W:World} {b off n k:Nat} {ao:Option Addr} {sw sa sb sn:Nat->Int} (S:StpA w ao n b off sw sa sb sn) (hk:k < n) (B:Below w.heap.size w W) (ho:∃ p,o.op=.load 33 p/\ρ p=.pointer (some ⟨b,off + k * 4,none⟩):=by exact ⟨_,rfl,by kernel_rfl⟩):(execOp ρ o).run Tryz.prog W=.ok (.value (.agg #[.int .i64 (sw k),.int .u64 (sa k),.int .u64 (sb k),.int .u64 (sn k)])) W:=by
 obtain ⟨p,h,hp⟩:=ho
 obtain ⟨c0,c1,c2,c3⟩:=S.cell k hk
 have:=ld_step (cellB B c0) (cellB B c1) (cellB B c2) (cellB B c3)
 simp only [execOp,h,hp]
 simp [Instr.loadAt,Instr.sureAddr,Result.andThen,this]
theorem belowO {w V V':World} {K:Nat->Prop} (h:Below w.heap.size w V) (hC:Chg K V V') (hk:∀ b,K b->w.heap.size<=b):Below w.heap.size w V' :=
 ((Chg.of (F:=fun _=>False) h).trans hC (fun b hl hb=>by have:=hk b hb; omega)).nothing
structure Zn (K:Nat->Prop) (n0:Nat) (wz V:World):Prop where
 ext:Ext n0 wz V
 off:∀ b,n0<=b->b < wz.heap.size->¬ K b
section
variable {K K':Nat->Prop} {n0:Nat} {wz V V':World}
theorem Zn.keep (h:Zn K n0 wz V) (hb:Below V.heap.size V V'):Zn K n0 wz V':=⟨h.ext.keep hb,h.off⟩
theorem Zn.drew (h:Zn K n0 wz V):Zn K n0 wz V.drew:=h.keep (Below.refl _ _).drew
theorem Zn.cell {x:Nat} (h:Zn K n0 wz V) (C:Chg (· = x) V V') (hx:x < n0\/wz.heap.size<=x):Zn K n0 wz V' :=
 ⟨⟨fun b h1 h2=>(C.same b (Nat.lt_of_lt_of_le h2 h.ext.2) (fun e=>by have e':b=x:=e; omega)).trans (h.ext.1 b h1 h2),Nat.le_trans h.ext.2 C.size⟩,h.off⟩
theorem Zn.op (h:Zn K n0 wz V) (hC:Chg K V V') (hK:∀ b,K' b->K b\/V.heap.size<=b):Zn K' n0 wz V' :=
 ⟨⟨fun b h1 h2=>(hC.same b (Nat.lt_of_lt_of_le h2 h.ext.2) (h.off b h1 h2)).trans (h.ext.1 b h1 h2),Nat.le_trans h.ext.2 hC.size⟩,fun b h1 h2 hk=>(hK b hk).elim (h.off b h1 h2) (fun h3=>by have:=h.ext.2; omega)⟩
theorem Zn.sum (h:Zn K n0 wz V) (hC:Chg K V V'):Zn K n0 wz V':=h.op hC (fun _ h=>.inl h)
theorem zn_new (_hb:Below V.heap.size V V') (hk:∀ b,K b->b < V.heap.size):Zn K V.heap.size V' V':=⟨⟨fun _ _ _=>rfl,Nat.le_refl _⟩,fun b h1 _ hb2=>by have:=hk b hb2; omega⟩
theorem Zn.nat {a:Option Addr} {k d:Nat} {x:Int} (h:Zn K n0 wz V) (hn:Rc.NatW wz n0 a k d x):Rc.NatW V n0 a k d x:=hn.off h.ext.2 (fun b h1 h2=>h.ext.1 b h1 h2)
theorem Zn.prs {v:Value} {es:List En} (h:Zn K n0 wz V) (hp:PrA wz n0 v es):PrA V n0 v es :=
 ⟨hp.ex.imp id (fun ⟨b,c,e,hl,hR⟩=>⟨b,c,e,hl,hR.same (h.ext.1 b hl hR.lt)⟩),fun e he=>(hp.ents e he).same fun b h1 h2=>h.ext.1 b h2 h1⟩
end
section
variable {B:Nat} {w:World} {K:Nat->Prop} {g:Nat} {E:Ents} {W:List Ents} {n N:Nat}
theorem Sx.ok (h:Sx B w K g E W n N) (ha:AllA E):Ok E:=⟨h.sa.rise,ha,h.crng,h.srng⟩
theorem Sx.few (h:Sx B w K g E W n N):(accs E).length<=N:=Nat.le_trans (by unfold accs; rw [List.length_map]; exact List.length_filter_le _ _) h.sa.size
theorem dumpZ (h:Sx B w K g E W n N) (hN:N<=100000000):Calls Tryz.prog 17 #[pg g] w fun e w'=>∃ v es,e=.returned v/\PrA w' w.heap.size v es/\es.map En.kl2=E/\Zn K w.heap.size w' w'/\Below w.heap.size w w':=by
 refine (sdump h.sa hN).mono ?_
 rintro e w' ⟨v,es,rfl,P,he,B⟩
 exact ⟨v,es,rfl,P,he,zn_new B (fun b hb=>h.sa.lt hb),B⟩
theorem pairsT {n1 n2:Nat} {E2:Ents} {u v:Value} {a b:List En} (h:Sx B w K g E W n N) (hN:N<=100000000) (ha:PrA w n1 u a) (hb:PrA w n2 v b) (ea:a.map En.kl2=E) (eb:b.map En.kl2=E2) (e:E2=E):Calls Tryz.prog 16 #[u,v] w fun e w'=>e=.returned (.bool true)/\Below w.heap.size w w':=by
 subst e
 refine pairs_same ha hb (ea.trans eb.symm) (fun x hx => ?_) ?_
 ·exact h.sa.small (x.kl,x.vl) (by rw [<- ea]; exact List.mem_map.2 ⟨x,hx,rfl⟩)
 ·have h1:=h.sa.size
  rw [<- ea,List.length_map] at h1
  omega
end
theorem run_nq {ρ:Operand->Value} {w:World} {o:Oper} {x y x' y':Int} (h1:x=x') (h2:y=y') (ho:∃ u v,o.op=.binOp .neq 42 u v 42/\ρ u=.agg #[.int .u64 x,.int .u64 y]/\ρ v=.agg #[.int .u64 x',.int .u64 y']:=by exact ⟨_,_,rfl,by kernel_rfl,by kernel_rfl⟩):(execOp ρ o).run Tryz.prog w=.ok (.value (.bool false)) w:=by
 obtain ⟨u,v,h,e1,e2⟩:=ho
 subst h1 h2
 simp only [execOp,h,e1,e2]
 go_simp
end Bk
end Go.Proofs.YtfpclhjmfpfhiaaGreat
namespace Go.Proofs.YtfpclhjmfpfhiaaGreat
namespace Bk
open Go.RowKit Go.Lib Pg Lim Kv
attribute [local go_sem] Oper.semAt_some
theorem look_cons (x:KV) (E:Ents) (k:List Int):Kv.look (x :: E) k=if x.1=k then some x.2 else Kv.look E k:=by
 unfold Kv.look
 rw [List.find?_cons]
 by_cases h:x.1=k<;>simp [h]
theorem rise_ext:∀ {E F:Ents},Rise E->Rise F->(∀ k,Kv.look E k=Kv.look F k)->E=F
 | [],[],_,_,_=>rfl
 | [],y :: F,_,_,h=>by
  have:=h y.1
  rw [look_cons,if_pos rfl] at this
  exact absurd this (by simp [Kv.look])
 | x :: E,[],_,_,h=>by
  have:=h x.1
  rw [look_cons,if_pos rfl] at this
  exact absurd this (by simp [Kv.look])
 | x :: E,y :: F,hE,hF,h=>by
  unfold Rise at hE hF
  rw [List.pairwise_cons] at hE hF
  have nE:∀ k,¬ Lt x.1 k->Kv.look E k=none:=fun k hk=>look_no (fun z hz e=>hk (e▸hE.1 z hz))
  have nF:∀ k,¬ Lt y.1 k->Kv.look F k=none:=fun k hk=>look_no (fun z hz e=>hk (e▸hF.1 z hz))
  have key:x.1=y.1:=by
   rcases lt_tri x.1 y.1 with hl | he | hg
   ·have q:=h x.1
    rw [look_cons,if_pos rfl,look_cons,if_neg (fun e=>by rw [e] at hl; exact lt_irrefl _ hl),nF x.1 hl.not] at q
    cases q
   ·exact he
   ·have q:=h y.1
    rw [look_cons y,if_pos rfl,look_cons,if_neg (fun e=>by rw [e] at hg; exact lt_irrefl _ hg),nE y.1 hg.not] at q
    cases q
  have val:x.2=y.2:=by
   have q:=h x.1
   rw [look_cons,if_pos rfl,look_cons,if_pos key.symm] at q
   exact Option.some.inj q
  have tail:E=F:=rise_ext hE.2 hF.2 (fun k=>by
   have q:=h k
   rw [look_cons,look_cons,<- key] at q
   by_cases e:x.1=k
   ·subst e
    rw [nE x.1 (lt_irrefl _),nF x.1 (by rw [key]; exact lt_irrefl _)]
   ·rwa [if_neg e,if_neg e] at q)
  rw [tail,Prod.ext key val]
def ent (x y:Int):Option (List Int):=if x=0/\y=0 then none else some (pv x y)
theorem lay_look {E:Ents} (h:Rise E) (id x y:Int) (k:List Int):Kv.look (layE E id x y) k=if ak id=k then ent x y else Kv.look E k:=by
 unfold layE ent
 split
 ·rw [look_rem h]
 ·rw [look_put h]
structure Can (E:Ents):Prop where
 ok:Ok E
 one:∀ j,U64 j->Kv.look E (ak j)=ent (coin E j) (seqn E j)
 cap:∀ j,U64 j->coin E j<=1000000000000000000
theorem can_nil:Can []:=by
 have c:∀ j,coin [] j=0:=fun j=>coinB_nil
 have s:∀ j,seqn [] j=0:=fun j=>seqB_nil
 refine ⟨⟨List.Pairwise.nil,fun e h=>by simp at h,fun j=>by rw [c]; exact ⟨by decide,by decide⟩,fun j=>by rw [s]; exact ⟨by decide,by decide⟩⟩,fun j _ => ?_,fun j _=>by rw [c]; decide⟩
 rw [c,s]
 rfl
theorem can_lay {E:Ents} {id x y:Int} (h:Can E) (ho:Ok (layE E id x y)) (hid:U64 id) (hx:U64 x) (hy:U64 y) (hm:x<=1000000000000000000):Can (layE E id x y):=by
 refine ⟨ho,fun j hj => ?_,fun j hj => ?_⟩
 ·rw [coin_lay h.ok.rise hid hj hx hy,seqn_lay h.ok.rise hid hj hx hy,lay_look h.ok.rise]
  by_cases e:id=j
  ·subst e
   rw [if_pos rfl,if_pos rfl,if_pos rfl]
  ·rw [if_neg e,if_neg e,if_neg (fun q=>e (ak_inj hid hj q)),h.one j hj]
 ·rw [coin_lay h.ok.rise hid hj hx hy]
  split
  ·exact hm
  ·exact h.cap j hj
theorem can_mint {E:Ents} {id k:Int} (h:Can E) (ho:Ok (mintE E id k)) (hid:U64 id) (hk:U64 k):Can (mintE E id k):=by
 by_cases e:mintR E id k=0
 ·obtain ⟨q,hh⟩:=mint_yes e
  rw [q] at ho ⊢
  have c:=h.ok.cr id
  unfold holdsP at hh
  exact can_lay h ho hid (by unfold U64 at *; omega) (h.ok.sr id) (by omega)
 ·rw [mint_no e]
  exact h
section
variable {E:Ents} {a b n m:Int}
end
section
variable {B:Nat} {w w':World} {K K' K2:Nat->Prop} {g g2:Nat} {E E2:Ents} {W W2:List Ents} {n N n2 N2:Nat}
theorem Sx.beside (c:Sx B w K2 g2 E2 W2 n2 N2) (s:Sx B w K g E W n N) (hC:Chg K w w') (dj:∀ b,K b->¬ K2 b):Sx B w' K2 g2 E2 W2 n2 N2 :=
 ⟨c.sa.chg hC dj (fun _ hb cs=>s.sa.noU hb cs),Nat.le_trans c.lo hC.size,c.kb⟩
end
end Bk
end Go.Proofs.YtfpclhjmfpfhiaaGreat
namespace Go.Proofs.YtfpclhjmfpfhiaaGreat
namespace Kv
open Go.RowKit Go.Lib Pg
attribute [local go_sem] Oper.semAt_some
structure Pq (w:World) (B:Nat) (D:Nat->Prop) (v:Value) (es:List En):Prop where
 ex:(v=.slice none 0 0/\es=[])\/∃ b c,v=.slice (some ⟨b,0,none⟩) es.length c/\B<=b/\Rw w 82 2 b es.length c (flat es)
 ents:∀ e∈es,EnA w D e
theorem Pq.shape {w:World} {B:Nat} {D:Nat->Prop} {v:Value} {es:List En} (h:Pq w B D v es):∃ ao c,v=.slice ao es.length c:=by
 rcases h.ex with ⟨rfl,rfl⟩ | ⟨b,c,rfl,_⟩
 ·exact ⟨none,0,rfl⟩
 ·exact ⟨_,c,rfl⟩
theorem Pq.keep {w w':World} {B:Nat} {D:Nat->Prop} {v:Value} {es:List En} (h:Pq w B D v es) (hb:Below w.heap.size w w'):Pq w' B D v es :=
 ⟨h.ex.imp id (fun ⟨b,c,e,hl,hR⟩=>⟨b,c,e,hl,hR.keep hb⟩),fun e he=>(h.ents e he).keep hb⟩
theorem Pq.nil (w:World) (B:Nat) (D:Nat->Prop):Pq w B D (.slice none 0 0) []:=⟨.inl ⟨rfl,rfl⟩,fun _ h=>by simp at h⟩
theorem Pq.a {w:World} {B B0:Nat} {D:Nat->Prop} {v:Value} {es:List En} (h:Pq w B D v es) (hB:B0<=B) (hD:∀ b,b < w.heap.size->D b->B0<=b):PrA w B0 v es :=
 ⟨h.ex.imp id (fun ⟨b,c,e,hl,hR⟩=>⟨b,c,e,by omega,hR⟩),fun e he=>(h.ents e he).mono hD⟩
theorem Pq.spr {w w':World} {B B1:Nat} {D:Nat->Prop} {v:Value} {es:List En} (h:Pq w B D v es) (hS:Spr B1 w w') (hb:∀ b c,v=.slice (some ⟨b,0,none⟩) es.length c->b < B1):Pq w' B D v es :=
 ⟨h.ex.imp id (fun ⟨b,c,e,hl,hR⟩=>⟨b,c,e,hl,hR.chg hS.chg (fun ⟨h1,_⟩=>by have:=hb b c e; omega)⟩),fun e he=>⟨hS.ob (h.ents e he).k,hS.ob (h.ents e he).v⟩⟩
theorem Pq.cells {w:World} {B p n c:Nat} {D:Nat->Prop} {es:List En} (h:Pq w B D (.slice (some ⟨p,0,none⟩) n c) es) {k:Nat} {e:En} (hk:es[k]? = some e):w.cell? ⟨p,k * 2,none⟩=some e.kv/\w.cell? ⟨p,k * 2 + 1,none⟩=some e.vv/\p < w.heap.size:=by
 rcases h.ex with ⟨e1,rfl⟩ | ⟨b,c',e1,hl,hR⟩
 ·simp at hk
 ·cases e1
  obtain ⟨h1,h2⟩:=flat_at hk
  exact ⟨hR.cell h1,hR.cell h2,hR.lt⟩
theorem Pq.some {w:World} {B n c:Nat} {ao:Option Addr} {D:Nat->Prop} {es:List En} (h:Pq w B D (.slice ao n c) es) {k:Nat} {e:En} (hk:es[k]? = some e):∃ p,ao=Option.some ⟨p,0,none⟩:=by
 rcases h.ex with ⟨_,e⟩ | ⟨p,c',e,_⟩
 ·subst e; simp at hk
 ·cases e; exact ⟨p,rfl⟩
theorem app_pq {w:World} {B:Nat} {D:Nat->Prop} {ov:Value} {es:List En} {e:En} {a:Addr} (ty:TypeId) (h:Pq w B D ov es) (hB:B<=w.heap.size) (he:EnA w D e) (hl:es.length<=2000000000) (c0:w.cell? (a.add 0)=some e.kv) (c1:w.cell? (a.add 1)=some e.vv) :
  ∃ ov' w',(Builtin.append_ #[27,27] ty #[ov,.slice (some a) 1 1]).run Tryz.prog w=.ok ov' w'/\Pq w' B D ov' (es ++ [e])/\Spr B w w':=by
 have hnews:∀ j u,[e.kv,e.vv][j]? = some u->w.cell? (a.add j)=some u:=fun j u hj=>by
  match j with
  | 0=>simp at hj; rw [<- hj]; exact c0
  | 1=>simp at hj; rw [<- hj]; exact c1
  | k + 2=>simp at hj
 rcases h.ex with ⟨rfl,rfl⟩ | ⟨b,c,rfl,hb,hR⟩
 ·obtain ⟨c',w',hr,hR,hw⟩:=app_nil (w:=w) KQ ty a 1 1 [e.kv,e.vv] rfl hnews (by omega) (by omega) (by omega)
  refine ⟨_,w',hr,⟨.inr ⟨_,c',rfl,hB,hR⟩,fun x hx => ?_⟩,Spr.of hw⟩
  simp at hx
  subst hx
  exact he.keep hw
 ·obtain ⟨ak,nk,hk1⟩:=he.k.shape
  obtain ⟨av,nv,hv1⟩:=he.v.shape
  obtain ⟨b',c',w',hr,hb',hR',hw⟩:=app_row (w:=w) KQ ty hR a 1 1 [e.kv,e.vv] rfl hnews (by rw [hk1,hv1]; simp [Value.oneCell']) (by omega) (by omega)
  obtain ⟨cs0,k0⟩:=hR.kind
  have hS:Spr B w w':=⟨hw.mono (fun x _ ex=>⟨ex▸hb,cs0,ex▸k0⟩)⟩
  refine ⟨_,w',hr,⟨.inr ⟨b',c',by simp,by rcases hb' with rfl | rfl<;>assumption,by rw [flat_append,List.length_append]; exact hR'⟩,fun x hx => ?_⟩,hS⟩
  have hx':EnA w D x:=by
   rcases List.mem_append.1 hx with hx | hx
   ·exact h.ents x hx
   ·simp at hx; rw [hx]; exact he
  exact ⟨hS.ob hx'.k,hS.ob hx'.v⟩
theorem Spr_below {B:Nat} {w w':World} (h:Spr B w w') (hB:B<=w.heap.size):Below B w w':=h.chg.below (fun _ h=>h.1) hB
theorem lit2 (w:World) (u v:Value) (t:TypeId):(w.alloc (.cells #[u,v] t)).cell? ((⟨w.heap.size,0,none⟩:Addr).add 0)=some u/\(w.alloc (.cells #[u,v] t)).cell? ((⟨w.heap.size,0,none⟩:Addr).add 1)=some v:=by
 have h:=blk_new w [u,v] t
 exact ⟨h.cell (i:=0) rfl,h.cell (i:=1) rfl⟩
theorem app_copy {w:World} {B:Nat} {D:Nat->Prop} {ov:Value} {es:List En} {e:En} (h:Pq w B D ov es) (hB:B<=w.heap.size) (he:EnA w D e) (hl:es.length<=2000000000) :
  ∃ ov' w',(Builtin.append_ #[27,27] 27 #[ov,.slice (some ⟨w.heap.size,0,none⟩) 1 1]).run Tryz.prog (w.alloc (.cells #[e.kv,e.vv] 82))=.ok ov' w'/\Pq w' B D ov' (es ++ [e])/\Below B w w':=by
 have hb:=below_alloc w (.cells #[e.kv,e.vv] 82)
 obtain ⟨c0,c1⟩:=lit2 w e.kv e.vv 82
 obtain ⟨ov',w',hr,hP,hS⟩:=app_pq (a:=⟨w.heap.size,0,none⟩) 27 (h.keep hb) (Nat.le_trans hB hb.size) (he.keep hb) hl c0 c1
 exact ⟨ov',w',hr,hP,(hb.mono hB).trans (Spr_below hS (Nat.le_trans hB hb.size))⟩
theorem KnK.stepQ {w0 w w':World} {f:Fm} {K:Nat->Prop} {g:Nat} {E F:Ents} {W:List Ents} {n N:Nat} {v:Value} {es:List En} (h:KnK w0 w f K g E W n N) (B:Below w.heap.size w w') (P:PrA w' w0.heap.size v es) (he:es.map En.kl2=F) (hb:∀ b m c,v=.slice (some ⟨b,0,none⟩) m c->w.heap.size<=b):KnK w0 w' (f.pr v F) K g E W n N:=by
 have h':=h.keep B
 refine ⟨h'.sa,fun b hk=>⟨(h.kz b hk).1,?_⟩,h'.bys,fun p hp => ?_,fun s hs' => ?_,h'.bel⟩
 ·rintro ⟨p,hp,m,c,e⟩
  rcases List.mem_cons.1 hp with rfl | hp
  ·have:=hb b m c e
   have:=h.sa.lt hk
   omega
  ·exact (h.kz b hk).2 ⟨p,hp,m,c,e⟩
 ·rcases List.mem_cons.1 hp with rfl | hp
  ·exact ⟨es,P,he⟩
  ·exact h'.prs p hp
 ·obtain ⟨J,hJ,hj⟩:=h.oth s hs'
  refine ⟨J,hJ.keep B,fun b hb'=>⟨(hj b hb').1,?_,(hj b hb').2.2⟩⟩
  rintro ⟨p,hp,m,c,e⟩
  rcases List.mem_cons.1 hp with rfl | hp
  ·have:=hb b m c e
   have:=hJ.lt hb'
   omega
  ·exact (hj b hb').2.1 ⟨p,hp,m,c,e⟩
theorem Kn.pairs {w0 w:World} {f:Fm} {g:Nat} {E:Ents} {W:List Ents} {n N:Nat} {w':World} {F:Ents} {v:Value} {es:List En} (h:Kn w0 w f g E W n N) (B:Below w.heap.size w w') (P:PrA w' w0.heap.size v es) (he:es.map En.kl2=F) (hb:∀ b m c,v=.slice (some ⟨b,0,none⟩) m c->w.heap.size<=b):Kn w0 w' (f.pr v F) g E W n N:=by
 obtain ⟨K,h⟩:=h.ex
 exact ⟨K,h.stepQ B P he hb⟩
theorem Kn.small {w0 w:World} {f:Fm} {g:Nat} {E:Ents} {W:List Ents} {n N:Nat} (h:Kn w0 w f g E W n N):∀ x∈E,x.1.length<=1000000000/\x.2.length<=1000000000:=by
 obtain ⟨K,h⟩:=h.ex
 exact h.sa.small
end Kv
end Go.Proofs.YtfpclhjmfpfhiaaGreat
namespace Go.Proofs.YtfpclhjmfpfhiaaGreat
namespace Kv
open Go.RowKit Go.Lib Pg
attribute [local go_sem] Oper.semAt_some
def cnt (E:Ents) (k:List Int):Nat:=(E.filter (fun x=>decide (Lt x.1 k))).length
theorem cnt_eq {E:Ents} {k:List Int} {j:Nat} (hj:j<=E.length) (h1:∀ i x,i < j->E[i]? = some x->Lt x.1 k) (h2:∀ i x,j<=i->E[i]? = some x->¬ Lt x.1 k):cnt E k=j:=by
 unfold cnt
 have e:E=E.take j ++ E.drop j:=(List.take_append_drop j E).symm
 rw [e,List.filter_append,filter_id,filter_no,List.append_nil,List.length_take,Nat.min_eq_left hj]
 ·intro x hx
  obtain ⟨i,hi⟩:=List.getElem?_of_mem hx
  rw [List.getElem?_drop] at hi
  exact decide_eq_false (h2 _ x (by omega) hi)
 ·intro x hx
  obtain ⟨i,hi⟩:=List.getElem?_of_mem hx
  have hl:=(List.getElem?_eq_some_iff.1 hi).1
  rw [List.length_take] at hl
  rw [List.getElem?_take,if_pos (by omega)] at hi
  exact decide_eq_true (h1 i x (by omega) hi)
theorem cnt_le (E:Ents) (k:List Int):cnt E k<=E.length:=List.length_filter_le _ _
theorem cnt_look {E:Ents} (h:Rise E) (k:List Int):(look E k).isSome=(match E[cnt E k]? with | some x=>decide (x.1=k) | none=>false)/\(∀ x,E[cnt E k]? = some x->x.1=k->look E k=some x.2)/\put E k=(fun v=>E.take (cnt E k) ++ (k,v) :: E.drop (cnt E k + if (look E k).isSome then 1 else 0))/\rem E k=E.take (cnt E k) ++ E.drop (cnt E k + if (look E k).isSome then 1 else 0):=by
 obtain ⟨X,Y,c,⟨rfl,hl⟩ | ⟨y,rfl,hl⟩⟩:=h.cut k
 ·have hc:cnt (X ++ Y) k=X.length:=by
   unfold cnt
   rw [List.filter_append,filter_id (fun x hx=>decide_eq_true (c.lo x hx)),filter_no (fun x hx=>decide_eq_false (fun h=>(c.hi x hx).not h)),List.append_nil]
  rw [hc,hl]
  refine ⟨?_,fun x hx e => ?_,?_,?_⟩
  ·rw [List.getElem?_append_right (Nat.le_refl _),Nat.sub_self]
   cases Y with
   | nil=>rfl
   | cons y Y=>simp [c.ny y List.mem_cons_self]
  ·rw [List.getElem?_append_right (Nat.le_refl _),Nat.sub_self] at hx
   exact absurd e (c.ny x (List.mem_of_getElem? hx))
  ·funext v
   rw [c.put0]
   simp
  ·rw [c.rem0]
   simp
 ·have hc:cnt (X ++ (k,y) :: Y) k=X.length:=by
   unfold cnt
   rw [List.filter_append,filter_id (fun x hx=>decide_eq_true (c.lo x hx)),List.filter_cons,if_neg (by simp [lt_irrefl]),filter_no (fun x hx=>decide_eq_false (fun h=>(c.hi x hx).not h)),List.append_nil]
  rw [hc,hl]
  refine ⟨?_,fun x hx _ => ?_,?_,?_⟩
  ·rw [List.getElem?_append_right (Nat.le_refl _),Nat.sub_self]
   simp
  ·rw [List.getElem?_append_right (Nat.le_refl _),Nat.sub_self] at hx
   simp at hx
   rw [<- hx]
  ·funext v
   rw [c.put1]
   simp
  ·rw [c.rem1]
   simp
theorem rise_at {es:List En} (h:Rise (es.map En.kl2)) {i j:Nat} {a b:En} (hij:i < j) (ha:es[i]? = some a) (hb:es[j]? = some b):Lt a.kl b.kl:=by
 unfold Rise at h
 rw [List.pairwise_map] at h
 obtain ⟨h1,e1⟩:=List.getElem?_eq_some_iff.1 ha
 obtain ⟨h2,e2⟩:=List.getElem?_eq_some_iff.1 hb
 have:=List.pairwise_iff_getElem.1 h i j h1 h2 hij
 rw [e1,e2] at this
 exact this
theorem lo_part {es:List En} (h:Rise (es.map En.kl2)) {k:List Int} {m:Nat} {x:En} (hx:es[m]? = some x) (hl:Lt x.kl k) {i:Nat} {y:En} (hi:i < m + 1) (hy:es[i]? = some y):Lt y.kl k:=by
 by_cases e:i=m
 ·subst e
  rw [hx] at hy
  cases hy
  exact hl
 ·exact Lt.trans (rise_at h (by omega) hy hx) hl
theorem hi_part {es:List En} (h:Rise (es.map En.kl2)) {k:List Int} {m:Nat} {x:En} (hx:es[m]? = some x) (hl:¬ Lt x.kl k) {i:Nat} {y:En} (hi:m<=i) (hy:es[i]? = some y):¬ Lt y.kl k:=by
 by_cases e:m=i
 ·subst e
  rw [hx] at hy
  cases hy
  exact hl
 ·exact fun hc=>hl (Lt.trans (rise_at h (by omega) hx hy) hc)
theorem map_at {es:List En} {i:Nat} {z:KV} (h:(es.map En.kl2)[i]? = some z):∃ x,es[i]? = some x/\z=x.kl2:=by
 rw [List.getElem?_map] at h
 cases e:es[i]? with
 | none=>rw [e] at h; cases h
 | some x=>rw [e] at h; cases h; exact ⟨x,rfl,rfl⟩
set_option maxHeartbeats 2000000 in
set_option maxRecDepth 100000 in
theorem rplace {w:World} {B q m:Nat} {D:Nat->Prop} {lv wv kv:Value} {nd:Int} {es:List En} {k:List Int} (hq:Blk w q [lv,wv,.int .i64 nd] 30) (hL:Pq w B D lv es) (hr:Rise (es.map En.kl2)) (hk:By w kv k) (hkl:k.length<=1000000000) (hs:∀ e∈es,e.kl.length<=1000000000) (hm:es.length=m) (hmb:m<=1000000) :
  Calls Tryz.prog 59 #[.pointer (some ⟨q,0,none⟩),kv] w fun e w'=>e=.returned (.tuple #[.int .i64 (cnt (es.map En.kl2) k),.bool (look (es.map En.kl2) k).isSome])/\Below w.heap.size w w':=by
 obtain ⟨ao,c,rfl⟩:=hL.shape
 obtain ⟨ka,kc,rfl,-⟩:=id hk.ex
 rw [hm] at hL hq
 have HM:=hid3 hm
 have hc0:=hq.drew.cell (i:=0) rfl
 have HQ:=hid3 hq
 have HL:=hid3 hL
 have HR:=hid3 hr
 have HK:=hid3 hk
 have HSm:=hid3 hs
 have hql:=hid3 hq.lt
 clear hq hL hr hk hs hm
 obtain ⟨kn,hkn⟩:∃ kn,Hid (k.length=kn):=⟨_,rfl⟩
 rw [hkn.out] at HK hkl ⊢
 go_enter Tryz.func59,Tryz.ntmps59
 go_wp2_with fail
 go_region
 go_wp2_with fail
 go_loopw [6,7] (fun tl th wr=>∃ lo hi:Nat,lo<=hi/\hi<=m/\tl=.int .i64 lo/\th=.int .i64 hi/\Hid (∀ i x,i < lo->es[i]? = some x->Lt x.kl k)/\Hid (∀ i x,hi<=i->es[i]? = some x->¬ Lt x.kl k)/\Hid (Below w.heap.size w wr)) (fun tl th _=>(intOf th).toNat - (intOf tl).toNat)
 case atStart=>exact ⟨0,m,Nat.zero_le _,Nat.le_refl _,rfl,rfl,fun i x h=>absurd h (Nat.not_lt_zero _),fun i x h hx=>absurd (List.getElem?_eq_some_iff.1 hx).1 (by have:=HM.out; omega),⟨rfl,rfl,rfl,Nat.le_refl _,fun _ _=>rfl⟩⟩
 case round =>
  obtain ⟨lo,hi,hlh,him,rfl,rfl,H1,H2,HB⟩:=hrel
  have hc1:=(HQ.out.keep HB.out).cell (i:=0) rfl
  by_cases hlt:lo < hi
  ·obtain ⟨md,hmd⟩:∃ md,Hid ((lo + hi) / 2=md):=⟨_,rfl⟩
   have hm1:lo<=md:=by rw [<- hmd.out]; omega
   have hm2:md < hi:=by rw [<- hmd.out]; omega
   have e1:((lo:Int) + hi) / 2=md:=by have:=hmd.out; omega
   have e2:((lo:Int) + hi).tdiv 2=md:=by rw [Int.tdiv_eq_ediv_of_nonneg (by omega)]; exact e1
   obtain ⟨x,hx⟩:∃ x,Hid (es[md]? = some x):=⟨es[md]'(by have:=HM.out; omega),List.getElem?_eq_getElem _⟩
   obtain ⟨p,rfl⟩:=HL.out.some hx.out
   have X:=(HL.out.keep HB.out).ents x (List.mem_of_getElem? hx.out)
   obtain ⟨c1,_,_⟩:=(HL.out.keep HB.out).cells hx.out
   obtain ⟨a1,n1,h1⟩:=X.k.shape
   rw [h1] at c1
   have hY:=X.k.by
   rw [h1] at hY
   have HY:=hid3 hY
   have hxl:=HSm.out x (List.mem_of_getElem? hx.out)
   obtain ⟨xn,hxn⟩:∃ xn,Hid (x.kl.length=xn):=⟨_,rfl⟩
   rw [hxn.out] at c1 HY hxl
   have hl0:(lo:Int) < hi:=by omega
   have hl1:(md:Int) < m:=by omega
   clear X hY h1
   have hle:=less_by HY.out (HK.out.keep HB.out) (by rw [hxn.out]; omega)
   by_cases hL:Lt x.kl k
   ·rw [decide_eq_true hL] at hle
    have HL':=hid3 hL
    clear hL
    go_wp2_with (go_at_call 100; go_must (refine hle.mono ?_); rintro e w7 ⟨rfl,B7⟩; clear hle)
    go_roundw
    case rel=>exact ⟨md + 1,hi,by omega,him,by go_num,rfl,(fun i y h hy=>lo_part HR.out hx.out HL'.out h hy),H2,HB.out.trans (B7.mono HB.out.size)⟩
    case measure=>simp [intOf]; omega
   ·rw [decide_eq_false hL] at hle
    have HL':=hid3 hL
    clear hL
    go_wp2_with (go_at_call 100; go_must (refine hle.mono ?_); rintro e w7 ⟨rfl,B7⟩; clear hle)
    go_roundw
    case rel=>exact ⟨lo,md,by omega,by omega,rfl,by go_num,H1,(fun i y h hy=>hi_part HR.out hx.out HL'.out h hy),HB.out.trans (B7.mono HB.out.size)⟩
    case measure=>simp [intOf]; omega
  ·obtain rfl:lo=hi:=by omega
   have hcn:=hid3 (show cnt (es.map En.kl2) k=lo from cnt_eq (by rw [List.length_map,HM.out]; exact him) (fun i z h hz=>by obtain ⟨x,hx,rfl⟩:=map_at hz; exact H1.out i x h hx) (fun i z h hz=>by obtain ⟨x,hx,rfl⟩:=map_at hz; exact H2.out i x h hx))
   have hlk:=(cnt_look HR.out k).1
   rw [hcn.out] at hlk
   by_cases hlm:lo < m
   ·obtain ⟨x,hx⟩:∃ x,Hid (es[lo]? = some x):=⟨es[lo]'(by have:=HM.out; omega),List.getElem?_eq_getElem _⟩
    have e9:(es.map En.kl2)[lo]? = some x.kl2:=by rw [List.getElem?_map,hx.out]; rfl
    rw [e9] at hlk
    have HLK:=hid3 (show (look (es.map En.kl2) k).isSome=decide (x.kl=k) from hlk)
    clear hlk e9
    obtain ⟨p,rfl⟩:=HL.out.some hx.out
    have X:=(HL.out.keep HB.out).ents x (List.mem_of_getElem? hx.out)
    obtain ⟨c1,_,_⟩:=(HL.out.keep HB.out).cells hx.out
    obtain ⟨a1,n1,h1⟩:=X.k.shape
    rw [h1] at c1
    have hY:=X.k.by
    rw [h1] at hY
    have HY:=hid3 hY
    have hxl:=HSm.out x (List.mem_of_getElem? hx.out)
    obtain ⟨xn,hxn⟩:∃ xn,Hid (x.kl.length=xn):=⟨_,rfl⟩
    rw [hxn.out] at c1 HY hxl
    have hl1:(lo:Int) < m:=by omega
    have hby:=bytes_any HY.out (HK.out.keep HB.out) (by rw [hxn.out]; omega) (by rw [hkn.out]; omega)
    obtain ⟨bb,hbb⟩:∃ bb,Hid (decide (x.kl=k)=bb):=⟨_,rfl⟩
    rw [hbb.out] at hby
    clear X hY h1
    go_wp2_with (go_at_call 38; go_must (refine hby.mono ?_); rintro e w7 ⟨rfl,B7⟩; clear hby)
    go_ret2
    rw [hcn.out,HLK.out,hbb.out]
    exact ⟨rfl,HB.out.trans (B7.mono HB.out.size)⟩
   ·have e9:(es.map En.kl2)[lo]? = none:=List.getElem?_eq_none (by rw [List.length_map,HM.out]; omega)
    rw [e9] at hlk
    have HLK:=hid3 (show (look (es.map En.kl2) k).isSome=false from hlk)
    clear hlk e9
    obtain rfl:lo=m:=by omega
    go_wp2
    go_ret2
    rw [hcn.out,HLK.out]
    exact ⟨rfl,HB.out⟩
set_option maxHeartbeats 2000000 in
set_option maxRecDepth 100000 in
theorem rbegins {w:World} {ka pa:Option Addr} {n c m d:Nat} {k p:List Int} (hk:By w (.slice ka n c) k) (hp:By w (.slice pa m d) p) (_hkl:k.length<=1000000000) (hpl:p.length<=1000000000) :
  Calls Tryz.prog 111 #[.slice ka n c,.slice pa m d] w fun e w'=>e=.returned (.bool (decide (p <+: k)))/\Below w.heap.size w w':=by
 obtain ⟨h1,h2,_⟩:=By.lens hk
 obtain ⟨h3,_,_⟩:=By.lens hp
 have HK:=hid3 hk
 have HP:=hid3 hp
 rw [h3] at hpl
 have H1:=hid3 h1
 have H3:=hid3 h3
 clear hk hp h1 h3
 by_cases hl:m<=n
 ·have hl':(m:Int)<=n:=by omega
  have u:=bytes_any (By.take HK.out m hl) HP.out (by rw [List.length_take]; have:=H1.out; omega) (by rw [H3.out]; exact hpl)
  have he:=hid3 (show decide (k.take m=p)=decide (p <+: k) by rw [decide_eq_decide,List.prefix_iff_eq_take,H3.out]; exact eq_comm)
  rw [he.out] at u
  obtain ⟨r,hr⟩:∃ r,Hid (decide (p <+: k)=r):=⟨_,rfl⟩
  rw [hr.out] at u ⊢
  go_enter Tryz.func111,Tryz.ntmps111
  go_wp2_with (go_at_call 38; go_must (refine u.mono ?_); rintro e w7 ⟨rfl,B7⟩; clear u)
  go_ret
  exact ⟨rfl,B7⟩
 ·have hl':((m:Int)<=n)=False:=eq_false (by omega)
  have hf:decide (p <+: k)=false:=decide_eq_false (fun h=>hl (by have:=h.length_le; rw [H1.out,H3.out] at this; exact this))
  rw [hf]
  go_enter Tryz.func111,Tryz.ntmps111
  go_wp2
  go_ret
  exact ⟨rfl,Below.refl _ _⟩
end Kv
end Go.Proofs.YtfpclhjmfpfhiaaGreat
namespace Go.Proofs.YtfpclhjmfpfhiaaGreat
namespace Kv
open Go.RowKit Go.Lib Pg
attribute [local go_sem] Oper.semAt_some
structure Pl (w:World) (z:Nat->Prop) (X:Nat->Prop) (v:Value) (F:Ents):Prop where
 ex:∃ es,Pq w 0 z v es/\es.map En.kl2=F
 blk:∀ b m c,v=.slice (some ⟨b,0,none⟩) m c->X b
theorem Pl.chg {w w':World} {z:Nat->Prop} {X Y:Nat->Prop} {v:Value} {F:Ents} (h:Pl w z X v F) (hc:Chg Y w w') (h1:∀ b,Y b->X b->∃ cs t,Blk w b cs t/\t≠82) (h2:∀ b,Y b->∀ cs,¬ Blk w b cs 5):Pl w' z X v F:=by
 obtain ⟨es,P,e⟩:=h.ex
 refine ⟨⟨es,⟨P.ex.imp id ?_,fun e he=>(P.ents e he).off fun b hb hk=>hc.same b hb fun hY=>by obtain ⟨cs,k⟩:=hk; exact h2 b hY cs k⟩,e⟩,h.blk⟩
 rintro ⟨b,c,ev,hl,hR⟩
 refine ⟨b,c,ev,hl,hR.chg hc fun hY => ?_⟩
 obtain ⟨cs,t,hk,ht⟩:=h1 b hY (h.blk b _ _ ev)
 obtain ⟨ds,kd⟩:=hR.kind
 exact ht (hk.eq kd).2
theorem Pl.mono {w:World} {z:Nat->Prop} {X X':Nat->Prop} {v:Value} {F:Ents} (h:Pl w z X v F) (hX:∀ b,X b->X' b):Pl w z X' v F:=⟨h.ex,fun b m c e=>hX b (h.blk b m c e)⟩
theorem Pl.keep {w w':World} {z:Nat->Prop} {X:Nat->Prop} {v:Value} {F:Ents} (h:Pl w z X v F) (hb:Below w.heap.size w w'):Pl w' z X v F:=by
 obtain ⟨es,P,e⟩:=h.ex
 exact ⟨⟨es,P.keep hb,e⟩,h.blk⟩
structure WsA (w:World) (z:Nat->Prop) (X:Nat->Prop) (wv:Value) (W:List Ents):Prop where
 ex:(wv=.slice none 0 0/\W=[])\/∃ b c vs,wv=.slice (some ⟨b,0,none⟩) W.length c/\X b/\Rw w 27 1 b W.length c vs/\∀ (i:Nat) v F,vs[i]? = some v->W.reverse[i]? = some F->Pl w z X v F
theorem WsA.shape {w:World} {z:Nat->Prop} {X:Nat->Prop} {wv:Value} {W:List Ents} (h:WsA w z X wv W):∃ ao c,wv=.slice ao W.length c:=by
 rcases h.ex with ⟨rfl,rfl⟩ | ⟨b,c,vs,rfl,_⟩
 ·exact ⟨none,0,rfl⟩
 ·exact ⟨_,c,rfl⟩
theorem WsA.chg {w w':World} {z:Nat->Prop} {X Y:Nat->Prop} {wv:Value} {W:List Ents} (h:WsA w z X wv W) (hc:Chg Y w w') (h1:∀ b,Y b->X b->∃ cs t,Blk w b cs t/\t≠82/\t≠27) (h2:∀ b,Y b->∀ cs,¬ Blk w b cs 5):WsA w' z X wv W:=by
 refine ⟨h.ex.imp id ?_⟩
 rintro ⟨b,c,vs,e,hX,hR,hv⟩
 refine ⟨b,c,vs,e,hX,hR.chg hc fun hY => ?_,fun i v F h3 h4=>(hv i v F h3 h4).chg hc (fun b hy hx=>by obtain ⟨cs,t,k,t1,_⟩:=h1 b hy hx; exact ⟨cs,t,k,t1⟩) h2⟩
 obtain ⟨cs,t,hk,_,ht⟩:=h1 b hY hX
 obtain ⟨ds,kd⟩:=hR.kind
 exact ht (hk.eq kd).2
structure RS (w:World) (z:Nat->Prop) (X:Nat->Prop) (q:Nat) (E:Ents) (W:List Ents) (n:Nat):Prop where
 ex:∃ lv wv,Blk w q [lv,wv,.int .i64 n] 30/\Pl w z X lv E/\WsA w z X wv W
 xq:X q
 xz:∀ b,X b->z b/\b < w.heap.size
 rise:Rise E
 small:∀ x∈E,x.1.length<=1000000000/\x.2.length<=1000000000
theorem RS.chg {w w':World} {z:Nat->Prop} {q n:Nat} {X Y:Nat->Prop} {E:Ents} {W:List Ents} (h:RS w z X q E W n) (hc:Chg Y w w') (h1:∀ b,Y b->¬ X b) (h2:∀ b,Y b->∀ cs,¬ Blk w b cs 5):RS w' z X q E W n:=by
 obtain ⟨lv,wv,hb,hl,hw⟩:=h.ex
 exact ⟨⟨lv,wv,hb.chg hc (fun hy=>h1 q hy h.xq),hl.chg hc (fun b hy hx=>absurd hx (h1 b hy)) h2,hw.chg hc (fun b hy hx=>absurd hx (h1 b hy)) h2⟩,h.xq,fun b hx=>⟨(h.xz b hx).1,Nat.lt_of_lt_of_le (h.xz b hx).2 hc.size⟩,h.rise,h.small⟩
theorem RS.keep {w w':World} {z:Nat->Prop} {q n:Nat} {X:Nat->Prop} {E:Ents} {W:List Ents} (h:RS w z X q E W n) (hb:Below w.heap.size w w'):RS w' z X q E W n:=h.chg (Chg.of (F:=fun _=>False) hb) (fun _ h=>h.elim) (fun _ h=>h.elim)
theorem RS.done {w:World} {z:Nat->Prop} {q n m:Nat} {X:Nat->Prop} {E:Ents} {W:List Ents} (h:RS w z X q E W n):RS (w.setCell ⟨q,2,none⟩ (.int .i64 (m:Nat))) z X q E W m/\Chg (· = q) w (w.setCell ⟨q,2,none⟩ (.int .i64 (m:Nat))):=by
 obtain ⟨lv,wv,hb,hl,hw⟩:=h.ex
 have hc:Chg (· = q) w (w.setCell ⟨q,2,none⟩ (.int .i64 (m:Nat))):=(Chg.refl (fun x=>x=q) w).cell (.inl rfl) _
 have h2:∀ b,b=q->∀ cs,¬ Blk w b cs 5:=fun b e cs k=>by subst e; exact absurd (hb.eq k).2 (by decide)
 exact ⟨⟨⟨lv,wv,hb.setCell (i:=2) _,hl.chg hc (fun b e _=>by subst e; exact ⟨_,_,hb,by decide⟩) h2,hw.chg hc (fun b e _=>by subst e; exact ⟨_,_,hb,by decide,by decide⟩) h2⟩,h.xq,fun b hx=>⟨(h.xz b hx).1,Nat.lt_of_lt_of_le (h.xz b hx).2 hc.size⟩,h.rise,h.small⟩,hc⟩
structure FinRG (w:World) (z:Nat->Prop) (X:Nat->Prop) (q:Nat) (E:Ents) (W:List Ents) (n:Nat) (b:Bool) (l:List Int) (e:Ending) (w':World):Prop where
 ex:∃ v,e=.returned (.tuple #[v,.bool b])/\OB w' (w.heap.size <= ·) v l/\RS w' z X q E W n/\Chg (· = q) w w'
set_option maxHeartbeats 2000000 in
set_option maxRecDepth 100000 in
theorem rget {w:World} {z:Nat->Prop} {q n:Nat} {X:Nat->Prop} {E:Ents} {W:List Ents} {kv:Value} {k:List Int} (h:RS w z X q E W n) (hk:By w kv k) (hkl:k.length<=1000000000) (hkq:By (w.setCell ⟨q,2,none⟩ (.int .i64 ((n + 1:Nat):Int))) kv k) (hn:n<=4000000000000000000) (hm:E.length<=1000000) :
  Calls Tryz.prog 35 #[.pointer (some ⟨q,0,none⟩),kv] w (FinRG w z X q E W (n + 1) (look E k).isSome ((look E k).getD [])):=by
 obtain ⟨lv,wv,hb,-,-⟩:=h.ex
 obtain ⟨R1,C1⟩:=h.done (m:=n + 1)
 obtain ⟨lv1,wv1,hb1,hl1,-⟩:=R1.ex
 obtain ⟨es,P,he⟩:=hl1.ex
 have hel:es.length=E.length:=by rw [<- he,List.length_map]
 have up:=rplace (m:=E.length) hb1 P (by rw [he]; exact h.rise) hkq hkl (fun e hx=>(h.small e.kl2 (by rw [<- he]; exact List.mem_map_of_mem hx)).1) hel hm
 rw [he] at up
 obtain ⟨k1,k2,-,-⟩:=cnt_look h.rise k
 obtain ⟨ka,kc,rfl,-⟩:=id hk.ex
 obtain ⟨kn,hkn⟩:∃ kn,Hid (k.length=kn):=⟨_,rfl⟩
 obtain ⟨lo,hlo⟩:∃ lo,Hid (cnt E k=lo):=⟨_,rfl⟩
 rw [hkn.out,hlo.out] at up
 rw [hlo.out] at k1 k2
 rw [hkn.out]
 have d2:=hb.cell (i:=2) rfl
 have f2:=hb.free 2
 have e5:((n:Int) + 1)=((n + 1:Nat):Int):=by omega
 obtain ⟨W1,hW1⟩:∃ W1,Hid (w.setCell ⟨q,2,none⟩ (.int .i64 ((n + 1:Nat):Int))=W1):=⟨_,rfl⟩
 have hW2:w.setCell ⟨q,2,none⟩ (.int .i64 ((n:Int) + 1))=W1:=by rw [e5]; exact hW1.out
 rw [hW1.out] at up R1 C1 hb1 P
 have HR1:=hid3 R1
 have HC1:=hid3 C1
 have HP:=hid3 P
 have HB1:=hid3 hb1
 have hel':=hid3 hel
 have he':=hid3 he
 have hsm:=hid3 h.small
 clear R1 C1 P hb1 hb h hk hkq hl1 he hel e5
 cases hl:look E k with
 | none =>
  rw [hl] at up k1
  have up':=hid3 up
  clear k1 k2 up
  go_enter Tryz.func35,Tryz.ntmps35
  go_wp2_with (go_at_call 59; go_must (refine up'.out.mono ?_); rintro e w2 ⟨rfl,B2⟩)
  go_ret2
  exact ⟨_,rfl,⟨(fun _ h=>by cases h),.inl ⟨rfl,rfl⟩⟩,HR1.out.keep B2,HC1.out.trans (Chg.of (F:=fun _=>False) B2) (fun _ _ h=>h.elim)⟩
 | some x =>
  rw [hl] at up k1
  have hx:∃ y,E[lo]? = some y/\y.1=k:=by
   cases e:E[lo]? with
   | none=>rw [e] at k1; cases k1
   | some y=>rw [e] at k1; exact ⟨y,rfl,by simpa using k1.symm⟩
  obtain ⟨y,hy,hyk⟩:=hx
  have hyx:=k2 y hy hyk
  rw [hl] at hyx
  have hyx':y.2=x:=by cases hyx; rfl
  rw [<- he'.out] at hy
  obtain ⟨e1,he1,rfl⟩:=map_at hy
  obtain ⟨av,cv,dv⟩:=HP.out.shape
  rw [hel'.out] at dv
  subst dv
  obtain ⟨p,rfl⟩:=HP.out.some he1
  have hlo':lo < E.length:=by have:=(List.getElem?_eq_some_iff.1 he1).1; rw [hel'.out] at this; exact this
  obtain ⟨m,hm2⟩:∃ m,Hid (E.length=m):=⟨_,rfl⟩
  rw [hm2.out] at hlo' HP HB1 hm
  have hl1:(lo:Int) < m:=by omega
  have hvs:=(hsm.out e1.kl2 (by rw [<- he'.out]; exact List.mem_map.2 ⟨e1,List.mem_of_getElem? he1,rfl⟩)).2
  have up':=hid3 up
  have he1':=hid3 he1
  have hyx2:=hid3 hyx'
  clear k1 k2 up hy hyk hyx hyx' he1
  go_enter Tryz.func35,Tryz.ntmps35
  go_wp2_with first
   | (go_at_call 59; go_must (refine up'.out.mono ?_); rintro e w2 ⟨rfl,B2⟩; have c0:=(HB1.out.keep B2).cell (i:=0) rfl; have PE:=(HP.out.keep B2).ents e1 (List.mem_of_getElem? he1'.out); obtain ⟨_,cV,_⟩:=(HP.out.keep B2).cells he1'.out; obtain ⟨a1,n1,h1⟩:=PE.v.shape; rw [h1] at cV; have hY:=PE.v.by; rw [h1] at hY; have HY:=hid3 hY; clear PE hY h1)
   | (go_at_call 60; go_must (refine (copyBytes_any HY.out hvs).mono ?_); rintro e w3 ⟨v3,rfl,O3,B3⟩)
  go_ret2
  rw [<- hyx2.out]
  exact ⟨v3,rfl,O3.mono (fun b _ hb=>Nat.le_trans (Nat.le_trans HC1.out.size B2.size) hb),(HR1.out.keep B2).keep B3,HC1.out.trans (Chg.of (F:=fun _=>False) (joinB B2 B3)) (fun _ _ h=>h.elim)⟩
end Kv
end Go.Proofs.YtfpclhjmfpfhiaaGreat
namespace Go.Proofs.YtfpclhjmfpfhiaaGreat
namespace Kv
open Go.RowKit Go.Lib Pg
attribute [local go_sem] Oper.semAt_some
structure RO (w:World) (z:Nat->Prop) (X:Nat->Prop) (q:Nat) (lv wv:Value) (es:List En) (W:List Ents) (n:Nat):Prop where
 top:Blk w q [lv,wv,.int .i64 n] 30
 row:Pq w 0 z lv es
 blk:∀ b m c,lv=.slice (some ⟨b,0,none⟩) m c->X b
 was:WsA w z X wv W
 xq:X q
 xz:∀ b,X b->z b/\b < w.heap.size
theorem RS.ro {w:World} {z:Nat->Prop} {q n:Nat} {X:Nat->Prop} {E:Ents} {W:List Ents} (h:RS w z X q E W n):∃ lv wv es,RO w z X q lv wv es W n/\es.map En.kl2=E:=by
 obtain ⟨lv,wv,hb,hl,hw⟩:=h.ex
 obtain ⟨es,P,e⟩:=hl.ex
 exact ⟨lv,wv,es,⟨hb,P,hl.blk,hw,h.xq,h.xz⟩,e⟩
theorem RO.rs {w:World} {z:Nat->Prop} {q n:Nat} {X:Nat->Prop} {lv wv:Value} {es:List En} {E:Ents} {W:List Ents} (h:RO w z X q lv wv es W n) (e:es.map En.kl2=E) (hr:Rise E) (hs:∀ x∈E,x.1.length<=1000000000/\x.2.length<=1000000000):RS w z X q E W n :=
 ⟨⟨lv,wv,h.top,⟨⟨es,h.row,e⟩,h.blk⟩,h.was⟩,h.xq,h.xz,hr,hs⟩
theorem pq_chg {w w':World} {B:Nat} {D Y:Nat->Prop} {v:Value} {es:List En} (h:Pq w B D v es) (hc:Chg Y w w') (h1:∀ b m c,v=.slice (some ⟨b,0,none⟩) m c->¬ Y b) (h2:∀ b,Y b->∀ cs,¬ Blk w b cs 5):Pq w' B D v es :=
 ⟨h.ex.imp id (fun ⟨b,c,e,hl,hR⟩=>⟨b,c,e,hl,hR.chg hc (h1 b _ _ e)⟩),fun e he=>(h.ents e he).off fun b hb hk=>hc.same b hb fun hK=>by obtain ⟨cs,k⟩:=hk; exact h2 b hK cs k⟩
theorem RO.chg {w w':World} {z:Nat->Prop} {q n:Nat} {X Y:Nat->Prop} {lv wv:Value} {es:List En} {W:List Ents} (h:RO w z X q lv wv es W n) (hc:Chg Y w w') (h1:∀ b,Y b->¬ X b) (h2:∀ b,Y b->∀ cs,¬ Blk w b cs 5):RO w' z X q lv wv es W n :=
 ⟨h.top.chg hc (fun hy=>h1 q hy h.xq),pq_chg h.row hc (fun b m c e hy=>h1 b hy (h.blk b m c e)) h2,h.blk,h.was.chg hc (fun b hy hx=>absurd hx (h1 b hy)) h2,h.xq,fun b hx=>⟨(h.xz b hx).1,Nat.lt_of_lt_of_le (h.xz b hx).2 hc.size⟩⟩
theorem RO.keep {w w':World} {z:Nat->Prop} {q n:Nat} {X:Nat->Prop} {lv wv:Value} {es:List En} {W:List Ents} (h:RO w z X q lv wv es W n) (hb:Below w.heap.size w w'):RO w' z X q lv wv es W n:=h.chg (Chg.of (F:=fun _=>False) hb) (fun _ h=>h.elim) (fun _ h=>h.elim)
theorem RO.noU {w:World} {z:Nat->Prop} {q n:Nat} {X:Nat->Prop} {lv wv:Value} {es:List En} {W:List Ents} (h:RO w z X q lv wv es W n):∀ b,b=q->∀ cs,¬ Blk w b cs 5:=fun b e cs k=>by subst e; exact absurd (h.top.eq k).2 (by decide)
theorem RO.done {w:World} {z:Nat->Prop} {q n m:Nat} {X:Nat->Prop} {lv wv:Value} {es:List En} {W:List Ents} (h:RO w z X q lv wv es W n):RO (w.setCell ⟨q,2,none⟩ (.int .i64 (m:Nat))) z X q lv wv es W m/\Chg (· = q) w (w.setCell ⟨q,2,none⟩ (.int .i64 (m:Nat))):=by
 have hc:Chg (· = q) w (w.setCell ⟨q,2,none⟩ (.int .i64 (m:Nat))):=(Chg.refl (fun x=>x=q) w).cell (.inl rfl) _
 refine ⟨⟨h.top.setCell (i:=2) _,pq_chg h.row hc (fun b m c e hy => ?_) h.noU,h.blk,h.was.chg hc (fun b e _=>by subst e; exact ⟨_,_,h.top,by decide,by decide⟩) h.noU,h.xq,fun b hx=>⟨(h.xz b hx).1,Nat.lt_of_lt_of_le (h.xz b hx).2 hc.size⟩⟩,hc⟩
 have hy':b=q:=hy
 subst hy'
 rcases h.row.ex with ⟨e1,_⟩ | ⟨b',c',e1,_,hR⟩
 ·rw [e1] at e; cases e
 ·rw [e1] at e
  cases e
  obtain ⟨ds,kd⟩:=hR.kind
  exact absurd (h.top.eq kd).2 (by decide)
theorem app_copyS {w:World} {B:Nat} {D:Nat->Prop} {ov:Value} {es:List En} {e:En} (h:Pq w B D ov es) (hB:B<=w.heap.size) (he:EnA w D e) (hl:es.length<=2000000000) :
  ∃ ov' w',(Builtin.append_ #[27,27] 27 #[ov,.slice (some ⟨w.heap.size,0,none⟩) 1 1]).run Tryz.prog (w.alloc (.cells #[e.kv,e.vv] 82))=.ok ov' w'/\Pq w' B D ov' (es ++ [e])/\Spr B (w.alloc (.cells #[e.kv,e.vv] 82)) w':=by
 have hb:=below_alloc w (.cells #[e.kv,e.vv] 82)
 obtain ⟨c0,c1⟩:=lit2 w e.kv e.vv 82
 obtain ⟨ov',w',hr,hP,hS⟩:=app_pq (a:=⟨w.heap.size,0,none⟩) 27 (h.keep hb) (Nat.le_trans hB hb.size) (he.keep hb) hl c0 c1
 exact ⟨ov',w',hr,hP,hS⟩
theorem RO.spr {w w':World} {z:Nat->Prop} {q n B:Nat} {X:Nat->Prop} {lv wv:Value} {es:List En} {W:List Ents} (h:RO w z X q lv wv es W n) (hS:Spr B w w') (hB:∀ b,X b->b < B):RO w' z X q lv wv es W n :=
 h.chg hS.chg (fun b hy hx=>by have:=hB b hx; have:=hy.1; omega) (fun b ⟨_,cs,k⟩ ds k'=>by
  have:=(k.eq k').2
  revert this
  decide)
def flg (P:List Int->Bool) (es:List En):List En:=es.filter (fun e=>P e.kl)
theorem flg_yes {P:List Int->Bool} {es:List En} {k:Nat} {x:En} (h:es[k]? = some x) (hp:P x.kl=true):flg P (es.take (k + 1))=flg P (es.take k) ++ [x]:=by
 unfold flg
 rw [List.take_add_one,h,List.filter_append]
 simp [hp]
theorem flg_no {P:List Int->Bool} {es:List En} {k:Nat} {x:En} (h:es[k]? = some x) (hp:P x.kl=false):flg P (es.take (k + 1))=flg P (es.take k):=by
 unfold flg
 rw [List.take_add_one,h,List.filter_append]
 simp [hp]
theorem flg_len (P:List Int->Bool) (es:List En) (k:Nat):(flg P (es.take k)).length<=k:=by
 unfold flg
 have h1:=List.length_filter_le (fun e:En=>P e.kl) (es.take k)
 have h2:=List.length_take_le k es
 omega
theorem flg_map (P:List Int->Bool) (es:List En):(flg P es).map En.kl2=(es.map En.kl2).filter (fun x=>P x.1):=by
 unfold flg
 induction es with
 | nil=>rfl
 | cons e es ih =>
  simp only [List.filter_cons,List.map_cons]
  cases h:P e.kl
  ·rw [if_neg (by simp),if_neg (by show ¬ P (En.kl2 e).1=true; rw [show P (En.kl2 e).1=false from h]; simp),ih]
  ·rw [if_pos rfl,if_pos (show P (En.kl2 e).1=true from h),List.map_cons,ih]
theorem flg_end {P:List Int->Bool} {es:List En} {j most:Nat} (h:es.length<=j\/(flg P (es.take j)).length=most) (hl:(flg P (es.take j)).length<=most):(flg P (es.take j)).map En.kl2=((es.map En.kl2).filter (fun x=>P x.1)).take most:=by
 rw [<- flg_map,<- List.map_take]
 congr 1
 rcases h with h | h
 ·rw [List.take_of_length_le h] at hl ⊢
  rw [List.take_of_length_le hl]
 ·have e:flg P es=flg P (es.take j) ++ flg P (es.drop j):=by
   unfold flg
   rw [<- List.filter_append,List.take_append_drop]
  have e2:(flg P (es.take j) ++ flg P (es.drop j)).take most=flg P (es.take j):=by
   rw [<- h,List.take_left']
   rfl
  rw [e,e2]
end Kv
end Go.Proofs.YtfpclhjmfpfhiaaGreat
namespace Go.Proofs.YtfpclhjmfpfhiaaGreat
namespace Kv
open Go.RowKit Go.Lib Pg
attribute [local go_sem] Oper.semAt_some
structure FinRW (w:World) (z:Nat->Prop) (X:Nat->Prop) (q:Nat) (E:Ents) (W:List Ents) (n:Nat) (F:Ents) (e:Ending) (w':World):Prop where
 ex:∃ v es,e=.returned v/\Pq w' w.heap.size z v es/\es.map En.kl2=F/\RS w' z X q E W (n + F.length)/\Chg (· = q) w w'
set_option maxHeartbeats 4000000 in
set_option maxRecDepth 100000 in
theorem rprefix {w : World} {z : Nat → Prop} {q n most : Nat} {X : Nat → Prop} {E : Ents} {W : List Ents} {pv : Value} {p : List Int} (h : RS w z X q E W n) (hp : BK w (· = q) pv p) (hpl : p.length ≤ 1000000000) (hn : n ≤ 3000000000000000000) (hm : E.length ≤ 1000000) (hmo : most ≤ 1000000) :
    Calls Tryz.prog 70 #[.pointer (some ⟨q, 0, none⟩), pv, .int .i64 most] w (FinRW w z X q E W (n + 1) ((E.filter (fun x => decide (p <+: x.1))).take most)) := by
  obtain ⟨lv, wv, es, R, he⟩ := h.ro
  obtain ⟨R1, C1⟩ := R.done (m := n + 1)
  obtain ⟨pa, pc, rfl⟩ := hp.shape
  obtain ⟨av, cv, dv⟩ := R.row.shape
  subst dv
  obtain ⟨m, hem⟩ : ∃ m, Hid (es.length = m) := ⟨_, rfl⟩
  have hmm : m ≤ 1000000 := by rw [← hem.out]; have : es.length = E.length := by rw [← he, List.length_map]
                               omega
  rw [hem.out] at R R1
  have d2 := R.top.cell (i := 2) rfl
  have f2 := R.top.free 2
  have e5 : ((n : Int) + 1) = ((n + 1 : Nat) : Int) := by omega
  obtain ⟨W1, hW1⟩ : ∃ W1, Hid (w.setCell ⟨q, 2, none⟩ (.int .i64 ((n + 1 : Nat) : Int)) = W1) := ⟨_, rfl⟩
  have hW2 : w.setCell ⟨q, 2, none⟩ (.int .i64 ((n : Int) + 1)) = W1 := by rw [e5]; exact hW1.out
  rw [hW1.out] at R1 C1
  have HR1 := hid3 R1
  have HC1 := hid3 C1
  have HE := hid3 he
  have HP := hid3 hp
  have HXB := hid3 (fun b (hx : X b) => (R.xz b hx).2)
  have HRi := hid3 h.rise
  have HSm := hid3 h.small
  obtain ⟨pn, hpn⟩ : ∃ pn, Hid (p.length = pn) := ⟨_, rfl⟩
  rw [hpn.out] at HP hpl ⊢
  clear R R1 C1 h hp he e5
  go_enter Tryz.func70, Tryz.ntmps70
  go_wp2_with fail
  go_loopw [7, 8] (fun tv ti wr => ∃ j : Nat, j ≤ m ∧ ti = .int .i64 j ∧ Hid (RO wr z X q (.slice av m cv) wv es W (n + 1 + (flg (fun l => decide (p <+: l)) (es.take j)).length)) ∧ Hid (Pq wr w.heap.size z tv (flg (fun l => decide (p <+: l)) (es.take j))) ∧ Hid (Chg (· = q) w wr) ∧ Hid ((flg (fun l => decide (p <+: l)) (es.take j)).length ≤ most)) (fun _ ti _ => m - (intOf ti).toNat)
  case atStart => exact ⟨0, Nat.zero_le _, rfl, HR1, Pq.nil _ _ _, HC1, Nat.zero_le _⟩
  case round =>
    obtain ⟨j, hj, rfl, HR, HQ, HC, HL⟩ := hrel
    obtain ⟨bo, d, hbo⟩ := HQ.out.shape
    obtain ⟨c, hc⟩ : ∃ c, Hid ((flg (fun l => decide (p <+: l)) (es.take j)).length = c) := ⟨_, rfl⟩
    have hcj : c ≤ j := by rw [← hc.out]; exact flg_len _ _ _
    have hcm : c ≤ most := by rw [← hc.out]; exact HL.out
    rw [hc.out] at hbo HR
    obtain ⟨N1, hN1⟩ : ∃ N1, Hid (n + 1 + c = N1) := ⟨_, rfl⟩
    have hNb : N1 ≤ 3000000000002000000 := by have := hN1.out; omega
    rw [hN1.out] at HR
    subst hbo
    have t0 := HR.out.top.cell (i := 0) rfl
    by_cases hlt : j < m
    · by_cases hcl : c < most
      · obtain ⟨x, hx⟩ : ∃ x, Hid (es[j]? = some x) := ⟨es[j]'(by have := hem.out; omega), List.getElem?_eq_getElem _⟩
        obtain ⟨pb, rfl⟩ := HR.out.row.some hx.out
        have XE := HR.out.row.ents x (List.mem_of_getElem? hx.out)
        obtain ⟨c1, c2, hpb⟩ := HR.out.row.cells hx.out
        have hxs := (HSm.out x.kl2 (by rw [← HE.out]; exact List.mem_map.2 ⟨x, List.mem_of_getElem? hx.out, rfl⟩)).1
        obtain ⟨xk, xkl, xv, xvl⟩ := x
        obtain ⟨a1, n1, e1⟩ := XE.k.shape
        obtain ⟨a2, n2, e2⟩ := XE.v.shape
        simp only at e1 e2 c1 c2
        subst e1 e2
        have hxs' : xkl.length ≤ 1000000000 := hxs
        have ub := rbegins (show By wr (.slice a1 xkl.length n1) xkl from XE.k.by) (HP.out wr HC.out) hxs' (by rw [hpn.out]; exact hpl)
        have hj0 : (j : Int) < m := by omega
        have hc0 : (c : Int) < most := by omega
        have HXE := hid3 XE
        clear XE hxs
        by_cases hpre : p <+: xkl
        · rw [decide_eq_true hpre] at ub
          have HY := hid3 (flg_yes (P := fun l => decide (p <+: l)) hx.out (decide_eq_true hpre))
          clear hpre
          go_wp2_with first
            | (go_at_call 111; go_must (refine ub.mono ?_); rintro e w7 ⟨rfl, B7⟩; clear ub; have R7 := HR.out.keep B7; have t7 := R7.top.cell (i := 0) rfl; obtain ⟨g1, g2, _⟩ := R7.row.cells hx.out; obtain ⟨ov', w8, hr, hP8, hS8⟩ := app_copyS (e := ⟨.slice a1 xkl.length n1, xkl, .slice a2 xvl.length n2, xvl⟩) (HQ.out.keep B7) (Nat.le_trans HC.out.size B7.size) (HXE.out.keep B7) (by rw [hc.out]; omega); have al := below_alloc w7 (.cells #[.slice a1 xkl.length n1, .slice a2 xvl.length n2] 82); have R8 := (R7.keep al).spr hS8 HXB.out; have t8 := R8.top.cell (i := 2) rfl; have f8 := R8.top.free 2; obtain ⟨R9, C9⟩ := R8.done (m := N1 + 1); have e9 : (N1 : Int) + 1 = ((N1 + 1 : Nat) : Int) := (by omega); obtain ⟨W9, hW9⟩ : ∃ W9, Hid (w8.setCell ⟨q, 2, none⟩ (.int .i64 ((N1 + 1 : Nat) : Int)) = W9) := ⟨_, rfl⟩; have hW9' : w8.setCell ⟨q, 2, none⟩ (.int .i64 ((N1 : Int) + 1)) = W9 := (by rw [e9]; exact hW9.out); rw [hW9.out] at R9 C9; have P9 := pq_chg hP8 C9 (fun b m' c' e hy => by have hy' : b = q := hy; subst hy'; rcases hP8.ex with ⟨e1, _⟩ | ⟨b', c2, e1, hb', _⟩; (rw [e1] at e; cases e); (rw [e1] at e; cases e; have := HXB.out _ R8.xq; omega)) R8.noU; have C10 := ((HC.out.trans (Chg.of (F := fun _ => False) (joinB B7 al)) (fun _ _ h => h.elim)).trans hS8.chg (fun b hb hy => by have := hy.1; omega)).trans C9 (fun _ _ h => h); have HR9 := hid3 R9; have HP9 := hid3 P9; have HC9 := hid3 C10; clear R9 P9 C10 C9 R8 hP8 hS8 al B7 R7 e9)
            | (at_builtin; refine Lib.wpList_append_run _ rfl _ _ _ _ rfl _ _ rfl rfl _ _ hr ?_)
          go_roundw
          case rel => exact ⟨j + 1, by omega, by go_num, by rw [HY.out, List.length_append, hc.out, show n + 1 + (c + [(⟨.slice a1 xkl.length n1, xkl, .slice a2 xvl.length n2, xvl⟩ : En)].length) = N1 + 1 by have := hN1.out; rw [List.length_singleton]; omega]; exact HR9, by rw [HY.out]; exact HP9, HC9, by rw [HY.out, List.length_append, hc.out, List.length_singleton]; exact hcl⟩
          case measure => simp [intOf]; omega
        · rw [decide_eq_false hpre] at ub
          have HY := hid3 (flg_no (P := fun l => decide (p <+: l)) hx.out (decide_eq_false hpre))
          clear hpre
          go_wp2_with (go_at_call 111; go_must (refine ub.mono ?_); rintro e w7 ⟨rfl, B7⟩; clear ub)
          go_roundw
          case rel => exact ⟨j + 1, by omega, by go_num, by rw [HY.out, hc.out, hN1.out]; exact HR.out.keep B7, by rw [HY.out]; exact HQ.out.keep B7, HC.out.trans (Chg.of (F := fun _ => False) B7) (fun _ _ h => h.elim), by rw [HY.out]; exact HL⟩
          case measure => simp [intOf]; omega
      · have hc0 : ((c : Int) < most) = False := eq_false (by omega)
        have hj0 : (j : Int) < m := by omega
        have HF := hid3 (flg_end (P := fun l => decide (p <+: l)) (es := es) (j := j) (most := most) (.inr (by rw [hc.out]; omega)) HL.out)
        go_wp2
        go_ret
        refine ⟨_, _, rfl, HQ.out, ?_, ?_, HC.out⟩
        · rw [HF.out, HE.out]
        · rw [← HE.out, ← HF.out, List.length_map, hc.out, hN1.out]
          exact HR.out.rs rfl (by rw [HE.out]; exact HRi.out) (by rw [HE.out]; exact HSm.out)
    · have hj0 : ((j : Int) < m) = False := eq_false (by omega)
      have HF := hid3 (flg_end (P := fun l => decide (p <+: l)) (es := es) (j := j) (most := most) (.inl (by rw [hem.out]; omega)) HL.out)
      go_wp2
      go_ret
      refine ⟨_, _, rfl, HQ.out, ?_, ?_, HC.out⟩
      · rw [HF.out, HE.out]
      · rw [← HE.out, ← HF.out, List.length_map, hc.out, hN1.out]
        exact HR.out.rs rfl (by rw [HE.out]; exact HRi.out) (by rw [HE.out]; exact HSm.out)
end Kv
end Go.Proofs.YtfpclhjmfpfhiaaGreat
namespace Go.Proofs.YtfpclhjmfpfhiaaGreat
namespace Kv
open Go.RowKit Go.Lib Pg
attribute [local go_sem] Oper.semAt_some
end Kv
end Go.Proofs.YtfpclhjmfpfhiaaGreat
namespace Go.Proofs.YtfpclhjmfpfhiaaGreat
namespace Kv
open Go.RowKit Go.Lib Pg
attribute [local go_sem] Oper.semAt_some
theorem KW:Kd Tryz.prog 28 27 1 24 (.slice none 0 0):=⟨by kernel_rfl,by kernel_rfl,rfl,by simp [Value.cells,Value.oneCell'],by decide⟩
theorem RS.rest {w:World} {z:Nat->Prop} {q n:Nat} {X:Nat->Prop} {E E':Ents} {W W':List Ents} (h:RS w z X q E W n) {lv wv:Value} (hl:Pl w z X lv E') (hw:WsA w z X wv W') (w':World) (hb:Blk w' q [lv,wv,.int .i64 n] 30) (hc:Chg (· = q) w w') (hr:Rise E') (hs:∀ x∈E',x.1.length<=1000000000/\x.2.length<=1000000000):RS w' z X q E' W' n:=by
 obtain ⟨lv0,wv0,hb0,_,_⟩:=h.ex
 have h2:∀ b,b=q->∀ cs,¬ Blk w b cs 5:=fun b e cs k=>by subst e; exact absurd (hb0.eq k).2 (by decide)
 exact ⟨⟨lv,wv,hb,hl.chg hc (fun b e _=>by subst e; exact ⟨_,_,hb0,by decide⟩) h2,hw.chg hc (fun b e _=>by subst e; exact ⟨_,_,hb0,by decide,by decide⟩) h2⟩,h.xq,fun b hx=>⟨(h.xz b hx).1,Nat.lt_of_lt_of_le (h.xz b hx).2 hc.size⟩,hr,hs⟩
end Kv
end Go.Proofs.YtfpclhjmfpfhiaaGreat
namespace Go.Proofs.YtfpclhjmfpfhiaaGreat
namespace Kv
open Go.RowKit Go.Lib Pg
attribute [local go_sem] Oper.semAt_some
end Kv
end Go.Proofs.YtfpclhjmfpfhiaaGreat
namespace Go.Proofs.YtfpclhjmfpfhiaaGreat
namespace Kv
open Go.RowKit Go.Lib Pg
attribute [local go_sem] Oper.semAt_some
theorem ld_ll {w:World} {g o:Nat} {v:Value} (c:w.cell? ⟨g,o,none⟩=some v):(loadVar 27 ⟨g,o,none⟩).run Tryz.prog w=.ok v w:=by go_simp
theorem run_b1 {a:Act} {w:World} {o:Oper} {k:Nat} {x:Option Addr} {n c:Nat} (ho:o.op=.buildSlice 28 1 #[(0,.tmp k)]) (hk:a.eval (.tmp k)=.slice x n c):(execOp a.eval o).run Tryz.prog w=.ok (.value (.slice (some ⟨w.heap.size,0,none⟩) 1 1)) (w.alloc (.cells #[.slice x n c] 27)):=by
 have hk':a.tmps[k]?.getD undef=.slice x n c:=by simpa [Act.eval] using hk
 simp only [execOp,ho]
 go_simp
theorem WsA.mono {w:World} {z:Nat->Prop} {X X':Nat->Prop} {wv:Value} {W:List Ents} (h:WsA w z X wv W) (hX:∀ b,X b->X' b):WsA w z X' wv W :=
 ⟨h.ex.imp id (fun ⟨b,c,vs,e,hx,hR,hv⟩=>⟨b,c,vs,e,hX b hx,hR,fun i v F h1 h2=>(hv i v F h1 h2).mono hX⟩)⟩
theorem WsA.push {w:World} {z:Nat->Prop} {X:Nat->Prop} {wv:Value} {W:List Ents} {la:Option Addr} {ln lc:Nat} {E:Ents} (h:WsA w z X wv W) (hl:Pl w z X (.slice la ln lc) E) (hW:W.length<=16) :
  ∃ b' c' w',(Builtin.append_ #[28,28] 28 #[wv,.slice (some ⟨w.heap.size,0,none⟩) 1 1]).run Tryz.prog (w.alloc (.cells #[.slice la ln lc] 27))=.ok (.slice (some ⟨b',0,none⟩) (W.length + 1) c') w'/\(X b'\/w.heap.size<=b')/\b' < w'.heap.size/\WsA w' z (fun b=>X b\/b=b') (.slice (some ⟨b',0,none⟩) (W.length + 1) c') (E :: W)/\Chg (fun b=>X b/\∃ cs,Blk w b cs 27) w w':=by
 have al:=below_alloc w (.cells #[.slice la ln lc] 27)
 have nb:=blk_new w [.slice la ln lc] 27
 have hnews:∀ j u,[Value.slice la ln lc][j]? = some u->(w.alloc (.cells #[.slice la ln lc] 27)).cell? ((⟨w.heap.size,0,none⟩:Addr).add j)=some u:=fun j u hj=>by
  have:j=0:=by have:=(List.getElem?_eq_some_iff.1 hj).1; simp at this; omega
  subst this
  simp at hj
  subst hj
  exact nb.cell (i:=0) rfl
 have hkeep:∀ {w':World} {v:Value} {F:Ents},Chg (fun b=>X b/\∃ cs,Blk w b cs 27) w w'->Pl w z X v F->Pl w' z X v F:=fun {w' v F} hc h=>h.chg hc (fun b hy _=>by obtain ⟨_,cs,k⟩:=hy; exact ⟨cs,_,k,by decide⟩) (fun b hy ds k'=>by obtain ⟨_,cs,k⟩:=hy; exact absurd (k.eq k').2 (by decide))
 rcases h.ex with ⟨rfl,rfl⟩ | ⟨b,c,vs,rfl,hX,hR,hv⟩
 ·obtain ⟨c',w',hr,hR',hB⟩:=app_nil (w:=w.alloc (.cells #[.slice la ln lc] 27)) KW 28 ⟨w.heap.size,0,none⟩ 1 1 [.slice la ln lc] rfl hnews (by decide) (by decide) (by decide)
  have hc:Chg (fun b=>X b/\∃ cs,Blk w b cs 27) w w':=Chg.of (joinB al hB)
  refine ⟨_,c',w',hr,.inr al.size,hR'.lt,⟨.inr ⟨_,c',_,rfl,.inr rfl,hR',fun i v F h1 h2 => ?_⟩⟩,hc⟩
  have:i=0:=by have:=(List.getElem?_eq_some_iff.1 h1).1; simp at this; omega
  subst this
  simp at h1 h2
  subst h1 h2
  exact (hkeep hc hl).mono fun _ h=>.inl h
 ·obtain ⟨b',c',w',hr,hb',hR',hC⟩:=app_row (w:=w.alloc (.cells #[.slice la ln lc] 27)) KW 28 (hR.keep al) ⟨w.heap.size,0,none⟩ 1 1 [.slice la ln lc] rfl hnews (by simp [Value.oneCell']) (by omega) (by omega)
  obtain ⟨cs0,k0⟩:=hR.kind
  have hc:Chg (fun b=>X b/\∃ cs,Blk w b cs 27) w w':=(Chg.of (F:=fun b=>X b/\∃ cs,Blk w b cs 27) al).trans hC (fun x _ e=>by have e':x=b:=e; subst e'; exact ⟨hX,cs0,k0⟩)
  refine ⟨b',c',w',hr,hb'.elim (fun e=>.inl (e▸hX)) (fun e=>.inr (by have:=al.size; omega)),hR'.lt,⟨.inr ⟨b',c',_,rfl,.inr rfl,hR',fun i v F h1 h2 => ?_⟩⟩,hc⟩
  have hl1:=hR.len
  by_cases hi:i < W.length
  ·rw [List.getElem?_append_left (by omega)] at h1
   rw [List.reverse_cons,List.getElem?_append_left (by rw [List.length_reverse]; exact hi)] at h2
   exact (hkeep hc (hv i v F h1 h2)).mono fun _ h=>.inl h
  ·have hi2:i=W.length:=by
    have:=(List.getElem?_eq_some_iff.1 h2).1
    simp at this
    omega
   subst hi2
   rw [List.getElem?_append_right (by omega),show W.length - vs.length=0 by omega] at h1
   rw [List.reverse_cons,List.getElem?_append_right (by simp),List.length_reverse,Nat.sub_self] at h2
   simp at h1 h2
   subst h1 h2
   exact (hkeep hc hl).mono fun _ h=>.inl h
def XU (w:World) (X:Nat->Prop) (b:Nat):Prop:=X b/\∀ cs,¬ Blk w b cs 5
theorem RS.noU {w:World} {z:Nat->Prop} {q n:Nat} {X:Nat->Prop} {E:Ents} {W:List Ents} (h:RS w z X q E W n):XU w X q:=⟨h.xq,fun cs k=>by
 obtain ⟨lv,wv,hb,-,-⟩:=h.ex
 exact absurd (hb.eq k).2 (by decide)⟩
structure FinRX (w:World) (z:Nat->Prop) (X:Nat->Prop) (q:Nat) (E:Ents) (W:List Ents) (n:Nat) (r:Int) (e:Ending) (w':World):Prop where
 ret:e=.returned (.int .i64 r)
 ex:∃ X',RS w' z X' q E W n/\(∀ b,X' b->X b\/w.heap.size<=b)/\(∀ b,X b->X' b)/\Chg (XU w X) w w'
end Kv
end Go.Proofs.YtfpclhjmfpfhiaaGreat
namespace Go.Proofs.YtfpclhjmfpfhiaaGreat
namespace Kv
open Go.RowKit Go.Lib Pg
attribute [local go_sem] Oper.semAt_some
theorem run_sol {a:Act} {w:World} {o:Oper} (k q:Nat) {g n c i:Nat} {u:Value} {ao:Option Addr} (ho:o.op=.store 27 (.tmp k) (.tmp q)) (hp:a.eval (.tmp k)=.pointer (some ⟨g,i,none⟩)) (hq:a.eval (.tmp q)=.slice ao n c) (hc:w.cell? ⟨g,i,none⟩=some u) (hf:w.frozen? ⟨g,i,none⟩=false) :
  (execOp a.eval o).run Tryz.prog w=.ok .skip (w.setCell ⟨g,i,none⟩ (.slice ao n c)):=by
 simp only [execOp,ho,hp,hq]
 go_simp
end Kv
end Go.Proofs.YtfpclhjmfpfhiaaGreat
namespace Go.Proofs.YtfpclhjmfpfhiaaGreat
namespace Kv
open Go.RowKit Go.Lib Pg
attribute [local go_sem] Oper.semAt_some
theorem app_zero {T E:TypeId} {k bytes:Nat} {z:Value} (H:Kd Tryz.prog T E k bytes z) (ty:TypeId) (w:World) (ao:Option Addr) (c:Nat):(Builtin.append_ #[T,T] ty #[.slice none 0 0,.slice ao 0 c]).run Tryz.prog w=.ok (.slice none 0 0) w:=by
 obtain ⟨i,hi,hz,hs,hb⟩:=info_parts H.inf
 have:(Builtin.firstCells i.size 0 (.slice ao 0 c)).run Tryz.prog w=.ok #[] w:=by
  cases ao with
  | none=>rfl
  | some a=>exact run_firstCells_some w i.size 0 a 0 c [] (by simp) (fun j v hj=>by simp at hj)
 simp [Builtin.append_,run_underlying H.und,sizeOf,typeInfo,hi,Builtin.lenOf,this]
theorem adr0 (b o n:Nat):(⟨b,o,none⟩:Addr).add n=⟨b,o + n,none⟩:=by
 by_cases h:n=0
 ·subst h; rfl
 ·simp [Addr.add,h]
theorem app_pairs {w:World} {B:Nat} {D:Nat->Prop} {ov:Value} {es es2:List En} {a:Addr} {cc:Nat} (h:Pq w B D ov es) (hB:B<=w.heap.size) (he:∀ e∈es2,EnA w D e) (h0:es2≠[]) (hl:es.length + es2.length<=2000000000) (hc:∀ j u,(flat es2)[j]? = some u->w.cell? (a.add j)=some u) :
  ∃ ov' w',(Builtin.append_ #[27,27] 27 #[ov,.slice (some a) es2.length cc]).run Tryz.prog w=.ok ov' w'/\Pq w' B D ov' (es ++ es2)/\Spr B w w':=by
 have hpos:0 < es2.length:=List.length_pos_iff.2 h0
 rcases h.ex with ⟨rfl,rfl⟩ | ⟨b,c,rfl,hb,hR⟩
 ·simp only [List.length_nil,Nat.zero_add] at hl
  obtain ⟨c',w',hr,hR,hw⟩:=app_nil (w:=w) KQ 27 a es2.length cc (flat es2) (flat_len es2) hc hpos (by omega) (by omega)
  exact ⟨_,w',hr,⟨.inr ⟨_,c',rfl,hB,hR⟩,fun x hx=>(he x hx).keep hw⟩,Spr.of hw⟩
 ·obtain ⟨b',c',w',hr,hb',hR',hw⟩:=app_row (w:=w) KQ 27 hR a es2.length cc (flat es2) (flat_len es2) hc (flat_one he) (by omega) (by omega)
  obtain ⟨cs0,k0⟩:=hR.kind
  have hS:Spr B w w':=⟨hw.mono (fun x _ ex=>⟨ex▸hb,cs0,ex▸k0⟩)⟩
  refine ⟨_,w',hr,⟨.inr ⟨b',c',by simp,by rcases hb' with rfl | rfl<;>assumption,by rw [flat_append,List.length_append]; exact hR'⟩,fun x hx => ?_⟩,hS⟩
  have hx':EnA w D x:=by
   rcases List.mem_append.1 hx with hx | hx
   ·exact h.ents x hx
   ·exact he x hx
  exact ⟨hS.ob hx'.k,hS.ob hx'.v⟩
theorem app_pairs0 {w:World} {B:Nat} {D:Nat->Prop} {ov:Value} {es es2:List En} {a:Addr} {cc:Nat} (h:Pq w B D ov es) (hB:B<=w.heap.size) (he:∀ e∈es2,EnA w D e) (hl:es.length + es2.length<=2000000000) (hc:∀ j u,(flat es2)[j]? = some u->w.cell? (a.add j)=some u) :
  ∃ ov' w',(Builtin.append_ #[27,27] 27 #[ov,.slice (some a) es2.length cc]).run Tryz.prog w=.ok ov' w'/\Pq w' B D ov' (es ++ es2)/\Spr B w w':=by
 by_cases h0:es2=[]
 ·subst h0
  rcases h.ex with ⟨rfl,rfl⟩ | ⟨b,c,rfl,hb,hR⟩
  ·exact ⟨_,w,app_zero KQ _ w _ _,Pq.nil _ _ _,Spr.of (Below.refl _ _)⟩
  ·obtain ⟨b',c',w',hr,hb',hR',hw⟩:=app_row (w:=w) KQ 27 hR a 0 cc [] rfl (fun j u hj=>by simp at hj) (by simp) (by omega) (by omega)
   obtain ⟨cs0,k0⟩:=hR.kind
   have hS:Spr B w w':=⟨hw.mono (fun x _ ex=>⟨ex▸hb,cs0,ex▸k0⟩)⟩
   refine ⟨_,w',hr,⟨.inr ⟨b',c',by simp,by rcases hb' with rfl | rfl<;>assumption,by rw [List.append_nil]; simpa using hR'⟩,fun x hx => ?_⟩,hS⟩
   have hx':=h.ents x (by simpa using hx)
   exact ⟨hS.ob hx'.k,hS.ob hx'.v⟩
 ·exact app_pairs h hB he h0 hl hc
theorem flat_take_at {es:List En} {i j:Nat} {u:Value} (h:(flat (es.take i))[j]? = some u):(flat es)[j]? = some u:=by
 rw [<- flat_take,List.getElem?_take] at h
 split at h
 ·exact h
 ·cases h
theorem flat_drop_at {es:List En} {i j:Nat} {u:Value} (h:(flat (es.drop i))[j]? = some u):(flat es)[i * 2 + j]? = some u:=by
 rw [<- flat_drop,List.getElem?_drop] at h
 exact h
theorem run_slh {a:Act} {w:World} {op:Oper} {x y n c b i:Nat} (ho:op.op=.slice 27 (.tmp x) none (some (.tmp y)) none) (hx:a.eval (.tmp x)=.slice (some ⟨b,0,none⟩) n c) (hy:a.eval (.tmp y)=.int .i64 i) (hc:i<=c):(execOp a.eval op).run Tryz.prog w=.ok (.value (.slice (some ⟨b,0,none⟩) i c)) w:=by
 have h1:¬ ((c:Int) < i):=by omega
 have h2:(i:Int)<=c:=by omega
 have h3:¬ ((i:Int) < 0):=by omega
 have hy':a.tmps[y]?.getD undef=.int .i64 i:=by simpa [Act.eval] using hy
 obtain ⟨i0,hi,hz0,hs0,hb0⟩:=info_parts (P:=Tryz.prog) KQ.inf
 simp only [execOp,ho,hx]
 go_simp
theorem run_sll {a:Act} {w:World} {op:Oper} {x y n c b i:Nat} {z:Int} (ho:op.op=.slice 27 (.tmp x) (some (.tmp y)) none none) (hx:a.eval (.tmp x)=.slice (some ⟨b,0,none⟩) n c) (hy:a.eval (.tmp y)=.int .i64 z) (hz:z=(i:Int)) (hn:i<=n) (hnc:n<=c):(execOp a.eval op).run Tryz.prog w=.ok (.value (.slice (some ⟨b,if c=i then 0 else i * 2,none⟩) (n - i) (c - i))) w:=by
 subst hz
 have h1:¬ ((n:Int) < i):=by omega
 have h2:(i:Int)<=n:=by omega
 have h3:¬ ((i:Int) < 0):=by omega
 have h4:(n:Int)<=c:=by omega
 have h8:(i:Int)<=c:=by omega
 have hy':a.tmps[y]?.getD undef=.int .i64 i:=by simpa [Act.eval] using hy
 obtain ⟨i0,hi,hz0,hs0,hb0⟩:=info_parts (P:=Tryz.prog) KQ.inf
 by_cases hC:c=i
 ·subst hC
  obtain rfl:n=c:=by omega
  simp only [execOp,ho,hx,if_true]
  go_simp
 ·have h5:¬ (c - i=0):=by omega
  have h6:¬ ((c:Int)=i):=by omega
  have h7:¬ (c<=i):=by omega
  simp only [execOp,ho,hx,if_neg hC]
  go_simp
end Kv
end Go.Proofs.YtfpclhjmfpfhiaaGreat
namespace Go.Proofs.YtfpclhjmfpfhiaaGreat
namespace Kv
open Go.RowKit Go.Lib Pg
attribute [local go_sem] Oper.semAt_some
theorem app_none {T E:TypeId} {k bytes:Nat} {z:Value} (H:Kd Tryz.prog T E k bytes z) (ty:TypeId) (w:World) (a:Addr) (n c:Nat) (hn:n<=c):(Builtin.append_ #[T,T] ty #[.slice (some a) n c,.slice none 0 0]).run Tryz.prog w=.ok (.slice (some a) n c) w:=by
 obtain ⟨i,hi,hz,hs,hb⟩:=info_parts H.inf
 have:(Builtin.firstCells i.size 0 (.slice none 0 0)).run Tryz.prog w=.ok #[] w:=rfl
 simp [Builtin.append_,run_underlying H.und,sizeOf,typeInfo,hi,Builtin.lenOf,this,hn,storeCells]
def offL (la:Option Addr) (c i:Nat):Option Addr:=match la with
 | none=>none
 | some a=>some ⟨a.block,if c=i then 0 else i * 2,none⟩
theorem app_take {w:World} {B B2:Nat} {D:Nat->Prop} {ov:Value} {es fs:List En} {la:Option Addr} {n c i:Nat} (h:Pq w B D ov es) (hB:B<=w.heap.size) (hs:Pq w B2 D (.slice la n c) fs) (hi:i<=fs.length) (hl:es.length + fs.length<=2000000000) :
  ∃ ov' w',(Builtin.append_ #[27,27] 27 #[ov,.slice la i c]).run Tryz.prog w=.ok ov' w'/\Pq w' B D ov' (es ++ fs.take i)/\Spr B w w':=by
 rcases hs.ex with ⟨e1,rfl⟩ | ⟨b,c',e1,_,hR⟩
 ·cases e1
  obtain rfl:i=0:=by simpa using hi
  rw [List.take_nil,List.append_nil]
  rcases h.ex with ⟨rfl,rfl⟩ | ⟨b,c,rfl,hb,hR⟩
  ·exact ⟨_,w,app_zero KQ _ w _ _,h,Spr.of (Below.refl _ _)⟩
  ·exact ⟨_,w,app_none KQ _ w _ _ _ hR.le.1,h,Spr.of (Below.refl _ _)⟩
 ·cases e1
  have hl2:(fs.take i).length=i:=by rw [List.length_take,Nat.min_eq_left hi]
  have up:=app_pairs0 (w:=w) (es2:=fs.take i) (a:=⟨b,0,none⟩) (cc:=c) h hB (fun x hx=>hs.ents x (List.mem_of_mem_take hx)) (by omega) (fun j u hj=>by
   rw [adr0,Nat.zero_add]
   exact hR.cell (flat_take_at hj))
  rw [hl2] at up
  exact up
theorem app_drop {w:World} {B B2:Nat} {D:Nat->Prop} {ov:Value} {es fs:List En} {la:Option Addr} {n c i:Nat} (h:Pq w B D ov es) (hB:B<=w.heap.size) (hs:Pq w B2 D (.slice la n c) fs) (hi:i<=fs.length) (hl:es.length + fs.length<=2000000000) :
  ∃ ov' w',(Builtin.append_ #[27,27] 27 #[ov,.slice (offL la c i) (n - i) (c - i)]).run Tryz.prog w=.ok ov' w'/\Pq w' B D ov' (es ++ fs.drop i)/\Spr B w w':=by
 rcases hs.ex with ⟨e1,rfl⟩ | ⟨b,c',e1,_,hR⟩
 ·cases e1
  obtain rfl:i=0:=by simpa using hi
  rw [List.drop_nil,List.append_nil]
  simp only [offL,Nat.sub_zero]
  rcases h.ex with ⟨rfl,rfl⟩ | ⟨b,c,rfl,hb,hR⟩
  ·exact ⟨_,w,app_zero KQ _ w _ _,h,Spr.of (Below.refl _ _)⟩
  ·exact ⟨_,w,app_none KQ _ w _ _ _ hR.le.1,h,Spr.of (Below.refl _ _)⟩
 ·cases e1
  simp only [offL]
  have hl2:(fs.drop i).length=fs.length - i:=by rw [List.length_drop]
  have hle:=hR.le
  have up:=app_pairs0 (w:=w) (es2:=fs.drop i) (a:=⟨b,if c=i then 0 else i * 2,none⟩) (cc:=c - i) h hB (fun x hx=>hs.ents x (List.mem_of_mem_drop hx)) (by omega) (fun j u hj=>by
   by_cases hC:c=i
   ·have:fs.drop i=[]:=List.drop_eq_nil_of_le (by omega)
    rw [this] at hj
    simp [flat] at hj
   ·rw [if_neg hC,adr0]
    exact hR.cell (flat_drop_at hj))
  rw [hl2] at up
  exact up
theorem run_slh' {a:Act} {w:World} {B:Nat} {D:Nat->Prop} {fs:List En} {op:Oper} {x y n c i:Nat} {la:Option Addr} (hs:Pq w B D (.slice la n c) fs) (ho:op.op=.slice 27 (.tmp x) none (some (.tmp y)) none) (hx:a.eval (.tmp x)=.slice la n c) (hy:a.eval (.tmp y)=.int .i64 i) (hi:i<=fs.length):∀ w':World,(execOp a.eval op).run Tryz.prog w'=.ok (.value (.slice la i c)) w':=by
 intro w'
 rcases hs.ex with ⟨e1,rfl⟩ | ⟨b,c',e1,_,hR⟩
 ·cases e1
  obtain rfl:i=0:=by simpa using hi
  have hy':a.tmps[y]?.getD undef=.int .i64 0:=by simpa [Act.eval] using hy
  obtain ⟨i0,hi,hz0,hs0,hb0⟩:=info_parts (P:=Tryz.prog) KQ.inf
  simp only [execOp,ho,hx]
  go_simp
 ·cases e1
  exact run_slh ho hx hy (Nat.le_trans hi hR.le.1)
theorem run_sll' {a:Act} {w:World} {B:Nat} {D:Nat->Prop} {fs:List En} {op:Oper} {x y n c i:Nat} {la:Option Addr} {z:Int} (hs:Pq w B D (.slice la n c) fs) (ho:op.op=.slice 27 (.tmp x) (some (.tmp y)) none none) (hx:a.eval (.tmp x)=.slice la n c) (hy:a.eval (.tmp y)=.int .i64 z) (hz:z=(i:Int)) (hi:i<=fs.length):∀ w':World,(execOp a.eval op).run Tryz.prog w'=.ok (.value (.slice (offL la c i) (n - i) (c - i))) w':=by
 intro w'
 rcases hs.ex with ⟨e1,rfl⟩ | ⟨b,c',e1,_,hR⟩
 ·cases e1
  obtain rfl:i=0:=by simpa using hi
  subst hz
  have hy':a.tmps[y]?.getD undef=.int .i64 0:=by simpa [Act.eval] using hy
  obtain ⟨i0,hi,hz0,hs0,hb0⟩:=info_parts (P:=Tryz.prog) KQ.inf
  simp only [execOp,ho,hx,offL]
  go_simp
 ·cases e1
  exact run_sll ho hx hy hz hi hR.le.1
section
variable {ops:Array Oper} {rest:List Oper} {o:Oper} {a:Act} {w w1:World} {Q:Exit->Act->World->Prop} {K:Act->World->Prop} {Q':Exit->Act->World->Prop}
theorem wk_val (d:Option Tmp) (v:Value) (hg:o.guard=none) (hd:o.dst=d) (hrun:(execOp a.eval o).run Tryz.prog w=.ok (.value v) w1) (h:wpList Tryz.prog ops Q rest (a.put d v) w1):wpList Tryz.prog ops Q (o :: rest) a w :=
 wpList_plain hg fun K hK=>by
  unfold Oper.wp
  rw [hrun]
  subst hd
  exact hK _ _ h
theorem wk_take (d:Option Tmp) (v:Value) (hg:o.guard=none) (hd:o.dst=d) (hrun:(execOp a.eval o).run Tryz.prog w=.ok (.value v) w) (h:wpList Tryz.prog ops Q rest (a.put d v) w):wpList Tryz.prog ops Q (o :: rest) a w:=wk_val d v hg hd hrun h
theorem wk_skip (hg:o.guard=none) (hd:o.dst=none) (hrun:(execOp a.eval o).run Tryz.prog w=.ok .skip w1) (h:wpList Tryz.prog ops Q rest (a.put none undef) w1):wpList Tryz.prog ops Q (o :: rest) a w :=
 wpList_plain hg fun K hK=>by
  unfold Oper.wp
  rw [hrun]
  show K (a.put o.dst undef) w1
  rw [hd]
  exact hK _ _ h
theorem wk_end (h:K a w):wpList Tryz.prog ops (Exit.then K Q') [] a w:=h
theorem wp_skip_then (h:K a w):Code.skip.wp Tryz.prog (Exit.then K Q') a w:=wp_skip h
end
theorem run_add1 {a:Act} {w:World} {o:Oper} {x n:Nat} (ho:o.op=.binOp .add 3 (.tmp x) (.const (.int .i64 1)) 3) (hx:a.eval (.tmp x)=.int .i64 (n:Int)) (hn:n<=1000000000):(execOp a.eval o).run Tryz.prog w=.ok (.value (.int .i64 ((n:Int) + 1))) w:=by
 have hx':a.tmps[x]?.getD undef=.int .i64 (n:Int):=by simpa [Act.eval] using hx
 simp only [execOp,ho]
 go_simp
 rw [IntKind.wrap_i64]
 omega
end Kv
end Go.Proofs.YtfpclhjmfpfhiaaGreat
namespace Go.Proofs.YtfpclhjmfpfhiaaGreat
namespace Kv
open Go.RowKit Go.Lib Pg
attribute [local go_sem] Oper.semAt_some
theorem ld_pr {w:World} {g:Nat} {v u:Value} (c:w.cell? ⟨g,0,none⟩=some v) (d:w.cell? ⟨g,1,none⟩=some u):(loadVar 82 ⟨g,0,none⟩).run Tryz.prog w=.ok (.agg #[v,u]) w:=by go_simp
theorem run_bsq {a:Act} {w:World} {o:Oper} {k:Nat} {kv vv:Value} (ho:o.op=.buildSlice 27 1 #[(0,.tmp k)]) (hk:a.eval (.tmp k)=.agg #[kv,vv]):(execOp a.eval o).run Tryz.prog w=.ok (.value (.slice (some ⟨w.heap.size,0,none⟩) 1 1)) (w.alloc (.cells #[kv,vv] 82)):=by
 have hk':a.tmps[k]?.getD undef=.agg #[kv,vv]:=by simpa [Act.eval] using hk
 simp only [execOp,ho]
 go_simp
theorem Pq.low {w:World} {B B':Nat} {D:Nat->Prop} {v:Value} {es:List En} (h:Pq w B D v es) (hB:B'<=B):Pq w B' D v es :=
 ⟨h.ex.imp id (fun ⟨b,c,e,hl,hR⟩=>⟨b,c,e,Nat.le_trans hB hl,hR⟩),h.ents⟩
theorem Pq.blkc {w:World} {B:Nat} {D:Nat->Prop} {v:Value} {es:List En} {m:Nat} (h:Pq w B D v es) (he:es≠[]) (hm:es.length=m):∃ b c,v=.slice (Option.some ⟨b,0,none⟩) m c:=by
 rcases h.ex with ⟨_,e⟩ | ⟨b,c,e,_⟩
 ·exact absurd e he
 ·exact ⟨b,c,by rw [e,hm]⟩
theorem built2 {W5:World} {B:Nat} {D:Nat->Prop} {es:List En} {e0:En} {la:Option Addr} {ln lc lo:Nat} (hL:Pq W5 B D (.slice la ln lc) es) (he:EnA W5 D e0) (hlo:lo<=es.length) (hl:es.length<=1000000) :
  (∃ v5 w5 b6 c6 w6,(Builtin.append_ #[27,27] 27 #[.slice none 0 0,.slice la lo lc]).run Tryz.prog W5=.ok v5 w5/\Below W5.heap.size W5 w5/\(Builtin.append_ #[27,27] 27 #[v5,.slice (some ⟨w5.heap.size,0,none⟩) 1 1]).run Tryz.prog (w5.alloc (.cells #[e0.kv,e0.vv] 82))=.ok (.slice (some ⟨b6,0,none⟩) (lo + 1) c6) w6/\Below W5.heap.size W5 w6/\Pq w6 W5.heap.size D (.slice (some ⟨b6,0,none⟩) (lo + 1) c6) (es.take lo ++ [e0])) /\
  (∃ v5 w5 b6 c6 w6,(Builtin.append_ #[27,27] 27 #[.slice none 0 0,.slice la lo lc]).run Tryz.prog (W5.alloc (.cells #[e0.kv,e0.vv] 82))=.ok v5 w5/\Below W5.heap.size W5 w5/\(Builtin.append_ #[27,27] 27 #[v5,.slice (some ⟨W5.heap.size,0,none⟩) 1 1]).run Tryz.prog w5=.ok (.slice (some ⟨b6,0,none⟩) (lo + 1) c6) w6/\Below W5.heap.size W5 w6/\Pq w6 W5.heap.size D (.slice (some ⟨b6,0,none⟩) (lo + 1) c6) (es.take lo ++ [e0])):=by
 have hlen:(es.take lo ++ [e0]).length=lo + 1:=by simp; omega
 have hne:es.take lo ++ [e0]≠[]:=by simp
 have htl:(es.take lo).length<=2000000000:=by rw [List.length_take]; omega
 refine ⟨?_,?_⟩
 ·obtain ⟨v5,w5,hr5,P5,S5⟩:=app_take (ov:=.slice none 0 0) (es:=[]) (Pq.nil W5 W5.heap.size D) (Nat.le_refl _) hL hlo (by simp; omega)
  rw [List.nil_append] at P5
  have b5:=Spr_below S5 (Nat.le_refl _)
  obtain ⟨v6,w6,hr6,P6,b6⟩:=app_copy P5 b5.size (he.keep b5) htl
  obtain ⟨b,c,rfl⟩:=P6.blkc hne hlen
  exact ⟨v5,w5,b,c,w6,hr5,b5,hr6,b5.trans b6,P6⟩
 ·have al:=below_alloc W5 (.cells #[e0.kv,e0.vv] 82)
  have hsz:=size_al W5 (.cells #[e0.kv,e0.vv] 82)
  obtain ⟨c0,c1⟩:=lit2 W5 e0.kv e0.vv 82
  obtain ⟨v5,w5,hr5,P5,S5⟩:=app_take (ov:=.slice none 0 0) (es:=[]) (Pq.nil _ _ D) (Nat.le_refl _) (hL.keep al) hlo (by simp; omega)
  rw [List.nil_append] at P5
  have b5:=Spr_below S5 (Nat.le_refl _)
  have b05:=joinB al b5
  have hlt:W5.heap.size < (W5.alloc (.cells #[e0.kv,e0.vv] 82)).heap.size:=by omega
  have d0:=(b5.cell (p:=⟨W5.heap.size,0,none⟩) hlt).trans c0
  have d1:=(b5.cell (p:=(⟨W5.heap.size,0,none⟩:Addr).add 1) hlt).trans c1
  obtain ⟨v6,w6,hr6,P6,S6⟩:=app_pq (a:=⟨W5.heap.size,0,none⟩) 27 P5 b5.size (he.keep b05) htl d0 d1
  have b6:=Spr_below S6 b5.size
  obtain ⟨b,c,rfl⟩:=P6.blkc hne hlen
  exact ⟨v5,w5,b,c,w6,hr5,b05,hr6,b05.trans (b6.mono (by omega)),P6.low (by omega)⟩
theorem RO.laid {w w7:World} {z:Nat->Prop} {q n:Nat} {X:Nat->Prop} {lv wv:Value} {es es7:List En} {W:List Ents} {b7 m7 c7:Nat} (h:RO w z X q lv wv es W n) (hZ:∀ b,w.heap.size<=b->z b) (B:Below w.heap.size w w7) (P7:Pq w7 w.heap.size z (.slice (some ⟨b7,0,none⟩) m7 c7) es7) {E':Ents} (hE:es7.map En.kl2=E') (hr:Rise E') (hs:∀ x∈E',x.1.length<=1000000000/\x.2.length<=1000000000) :
  ∃ X',RS (w7.setCell ⟨q,0,none⟩ (.slice (some ⟨b7,0,none⟩) m7 c7)) z X' q E' W n/\(∀ b,X' b->X b\/w.heap.size<=b)/\(∀ b,X b->X' b)/\Chg (· = q) w (w7.setCell ⟨q,0,none⟩ (.slice (some ⟨b7,0,none⟩) m7 c7)):=by
 have h7:=h.keep B
 have hqs:=(h.xz q h.xq).2
 have C9:Chg (· = q) w7 (w7.setCell ⟨q,0,none⟩ (.slice (some ⟨b7,0,none⟩) m7 c7)):=(Chg.refl (fun x=>x=q) w7).cell (.inl rfl) _
 have hb7:w.heap.size<=b7/\b7 < w7.heap.size:=by
  rcases P7.ex with ⟨e,_⟩ | ⟨b,c,e,hb,hR⟩
  ·cases e
  ·cases e; exact ⟨hb,hR.lt⟩
 have P9:=pq_chg P7 C9 (fun b m c e hy=>by cases e; have hy':b7=q:=hy; omega) h7.noU
 refine ⟨fun b=>X b\/b=b7,⟨⟨_,_,h7.top.setCell (i:=0) _,⟨⟨es7,P9.low (Nat.zero_le _),hE⟩,fun b m c e=>by cases e; exact .inr rfl⟩,(h7.was.chg C9 (fun b e _=>by subst e; exact ⟨_,_,h7.top,by decide,by decide⟩) h7.noU).mono fun _ h=>.inl h⟩,.inl h.xq,fun b hx => ?_,hr,hs⟩,fun b hx=>hx.imp id (fun e=>by rw [e]; exact hb7.1),fun _ h=>.inl h,(Chg.of (F:=fun x=>x=q) B).trans C9 (fun _ _ h=>h)⟩
 have hs9:=C9.size
 rcases hx with hx | rfl
 ·have h1:=h7.xz b hx
  exact ⟨h1.1,by omega⟩
 ·exact ⟨hZ _ hb7.1,by omega⟩
set_option maxHeartbeats 2000000 in
set_option maxRecDepth 100000 in
theorem rset_ok {w:World} {z:Nat->Prop} {q n:Nat} {X:Nat->Prop} {E:Ents} {W:List Ents} {kv vv:Value} {k v:List Int} (h:RS w z X q E W n) (hZ:∀ b,w.heap.size<=b->z b) (hk:By w kv k) (hv:By w vv v) (hkq:By (w.setCell ⟨q,2,none⟩ (.int .i64 ((n + 1:Nat):Int))) kv k) (hvq:By (w.setCell ⟨q,2,none⟩ (.int .i64 ((n + 1:Nat):Int))) vv v) (hk0:¬ k.length=0) (hk1:k.length<=64) (hv1:v.length<=4096) (hn:n<=4000000000000000000) (hm:E.length<=1000000) :
  Calls Tryz.prog 52 #[.pointer (some ⟨q,0,none⟩),kv,vv] w (FinRX w z X q (put E k v) W (n + 1) 0):=by
 obtain ⟨lv,wv,es,R0,he⟩:=h.ro
 obtain ⟨R1,C1⟩:=R0.done (m:=n + 1)
 have hel:es.length=E.length:=by rw [<- he,List.length_map]
 have up:=rplace (m:=E.length) R1.top R1.row (by rw [he]; exact h.rise) hkq (by omega) (fun e hx=>(h.small e.kl2 (by rw [<- he]; exact List.mem_map_of_mem hx)).1) hel hm
 rw [he] at up
 obtain ⟨k1,-,k3,-⟩:=cnt_look h.rise k
 obtain ⟨la,lc,rfl⟩:=R0.row.shape
 obtain ⟨ka,kc,rfl,-⟩:=id hk.ex
 obtain ⟨va,vc,rfl,-⟩:=id hv.ex
 obtain ⟨lo,hlo⟩:∃ lo,Hid (cnt E k=lo):=⟨_,rfl⟩
 have hlo5:lo<=es.length:=by rw [<- hlo.out,hel]; exact cnt_le E k
 have hpr:Rise (put E k v)/\∀ x∈put E k v,x.1.length<=1000000000/\x.2.length<=1000000000:=⟨h.rise.put k v,fun x hx=>by
  rcases List.mem_append.1 hx with hx | hx
  ·exact h.small x (List.mem_filter.1 hx).1
  ·rcases List.mem_cons.1 hx with rfl | hx
   ·exact ⟨by show k.length<=_; omega,by show v.length<=_; omega⟩
   ·exact h.small x (List.mem_filter.1 hx).1⟩
 have hput:put E k v=E.take lo ++ (k,v) :: E.drop (lo + if (look E k).isSome then 1 else 0):=by rw [<- hlo.out]; exact congrFun k3 v
 have hlo6:lo + (if (look E k).isSome then 1 else 0)<=es.length:=by
  split
  ·rename_i hs
   rw [hs] at k1
   rw [hlo.out] at k1
   cases e:E[lo]? with
   | none=>rw [e] at k1; cases k1
   | some y=>have:=(List.getElem?_eq_some_iff.1 e).1; omega
  ·exact hlo5
 obtain ⟨is,his⟩:∃ is,Hid ((look E k).isSome=is):=⟨_,rfl⟩
 rw [hlo.out,his.out] at up
 rw [his.out] at hput hlo6
 obtain ⟨kn,hkn⟩:∃ kn,Hid (k.length=kn):=⟨_,rfl⟩
 obtain ⟨vn,hvn⟩:∃ vn,Hid (v.length=vn):=⟨_,rfl⟩
 obtain ⟨ln,hln⟩:∃ ln,Hid (es.length=ln):=⟨_,rfl⟩
 rw [hkn.out] at hk0 hk1 up hkq ⊢
 rw [hvn.out] at hv1 hvq ⊢
 rw [hln.out] at R0 R1
 have d2:=R0.top.cell (i:=2) rfl
 have f2:=R0.top.free 2
 have e5:((n:Int) + 1)=((n + 1:Nat):Int):=by omega
 obtain ⟨W1,hW1⟩:∃ W1,Hid (w.setCell ⟨q,2,none⟩ (.int .i64 ((n + 1:Nat):Int))=W1):=⟨_,rfl⟩
 have hW2:w.setCell ⟨q,2,none⟩ (.int .i64 ((n:Int) + 1))=W1:=by rw [e5]; exact hW1.out
 rw [hW1.out] at up R1 C1 hkq hvq
 have up':=hid3 up
 have HR1:=hid3 R1
 have HC1:=hid3 C1
 have HK:=hid3 hkq
 have HV:=hid3 hvq
 have HE:=hid3 he
 have HX:=hid3 h.noU
 have HPR:=hid3 hpr
 have HPU:=hid3 hput
 have hZ':=hid3 hZ
 have hel':=hid3 hel
 have hqx:=(h.xz q h.xq).2
 have hln5:=hlo5
 have hln6:=hlo6
 rw [hln.out] at hln5 hln6
 have hk2:¬ ((kn:Int) < 1):=by omega
 have hk3:¬ ((64:Int) < kn):=by omega
 have hv3:¬ ((4096:Int) < vn):=by omega
 have hkl9:k.length<=1000000000:=by have:=hkn.out; omega
 have hvl9:v.length<=1000000000:=by have:=hvn.out; omega
 clear R1 C1 up h hk hv hkq hvq he e5 hel R0 k1 k3 hput hpr hZ
 go_enter Tryz.func52,Tryz.ntmps52
 go_wp2_with first
  | (go_at_call 59; go_must (refine up'.out.mono ?_); rintro e w2 ⟨rfl,B2⟩; clear up')
  | (go_at_call 60; have gate:=B3; clear gate; go_must (refine (copyBytes_any ((HV.out.keep B2).keep B3) hvl9).mono ?_); rintro e w3 ⟨v3,rfl,V3,B4⟩; obtain ⟨a3,c3,e3⟩:=V3.shape; rw [hvn.out] at e3; subst e3)
  | (go_at_call 60; go_must (refine (copyBytes_any (HK.out.keep B2) hkl9).mono ?_); rintro e w3a ⟨v2,rfl,V2,B3⟩; obtain ⟨a2,c2,e2⟩:=V2.shape; rw [hkn.out] at e2; subst e2)
 have b4:=below_alloc w3 (.cells #[.slice a2 kn c2,.slice a3 vn c3] 82)
 have B05:=joinB (joinB (joinB B2 B3) B4) b4
 have x05:=hid3 ((blk_new w3 [.slice a2 kn c2,.slice a3 vn c3] 82).cell (i:=0) rfl)
 have x15:=hid3 ((blk_new w3 [.slice a2 kn c2,.slice a3 vn c3] 82).cell (i:=1) rfl)
 have he5:=size_al w3 (.cells #[.slice a2 kn c2,.slice a3 vn c3] 82)
 have EN:=hid3 (show EnA (w3.alloc (.cells #[.slice a2 kn c2,.slice a3 vn c3] 82)) z ⟨.slice a2 kn c2,k,.slice a3 vn c3,v⟩ from ⟨((V2.keep B4).keep b4).mono (fun b _ hb=>hZ'.out b (by have:=HC1.out.size; have:=B2.size; omega)),(V3.keep b4).mono (fun b _ hb=>hZ'.out b (by have:=HC1.out.size; have:=B2.size; have:=B3.size; omega))⟩)
 obtain ⟨W5,hW5⟩:∃ W5,Hid (w3.alloc (.cells #[.slice a2 kn c2,.slice a3 vn c3] 82)=W5):=⟨_,rfl⟩
 rw [hW5.out] at b4 B05 x05 x15 he5 EN ⊢
 have R5:=hid3 (HR1.out.keep B05)
 have HP5:=hid3 R5.out.row
 have c05:=hid3 (R5.out.top.cell (i:=0) rfl)
 have hZ5:∀ b,W5.heap.size<=b->z b:=fun b hb=>hZ'.out b (by have:=HC1.out.size; have:=B05.size; omega)
 have hq5:q < W5.drew.heap.size:=(R5.out.xz q R5.out.xq).2
 replace he5:w3.heap.size < W5.drew.heap.size:=by show w3.heap.size < W5.heap.size; omega
 obtain ⟨⟨v5a,w5a,b6a,c6a,w6a,hr5a,B5a,hr6a,B6a,P6a⟩,⟨v5b,w5b,b6b,c6b,w6b,hr5b,B5b,hr6b,B6b,P6b⟩⟩:=built2 (W5:=W5.drew) (HP5.out.keep (belowD' W5)) (EN.out.keep (belowD' W5)) hlo5 (by rw [hel'.out]; exact hm)
 replace hr5a:=hid3 hr5a
 replace hr6a:=hid3 hr6a
 replace hr5b:=hid3 hr5b
 replace hr6b:=hid3 hr6b
 replace B5a:=hid3 B5a
 replace B6a:=hid3 B6a
 replace B5b:=hid3 B5b
 replace B6b:=hid3 B6b
 replace P6a:=hid3 P6a
 replace P6b:=hid3 P6b
 clear hZ'
 refine rg_mid (X:=Value × Value × Nat × Nat) (fun x=>[(some 40,.slice none 0 0),(some 41,.pointer (some ⟨q,0,none⟩)),(some 42,.pointer (some ⟨q,0,none⟩)),(some 43,.pointer (some ⟨q,0,none⟩)),(some 44,.slice la ln lc),(some 45,.int .i64 lo),(some 46,.slice la lo lc),(some 47,x.1),(some 48,.agg #[.slice a2 kn c2,.slice a3 vn c3]),(some 49,x.2.1),(some 50,.slice (some ⟨x.2.2.1,0,none⟩) (lo + 1) x.2.2.2),(some 10,.slice (some ⟨x.2.2.1,0,none⟩) (lo + 1) x.2.2.2)]) (fun x w'=>Pq w' W5.heap.size z (.slice (some ⟨x.2.2.1,0,none⟩) (lo + 1) x.2.2.2) (es.take lo ++ [(⟨.slice a2 kn c2,k,.slice a3 vn c3,v⟩:En)])/\Below W5.heap.size W5 w') (fun w'=>Below W5.drew.heap.size W5.drew w') (by kernel_rfl) (Below.refl _ _) ?_ ?_
 ·refine rg_take 0 (some 40) (.slice none 0 0) (by kernel_rfl) (fun _ _=>by kernel_rfl) (fun _ _ _ h=>h) (Below.refl _ _) ?_
  refine rg_take 1 (some 41) (.pointer (some ⟨q,0,none⟩)) (by kernel_rfl) (fun _ _=>by kernel_rfl) (fun _ _ _ h=>h) (Below.refl _ _) ?_
  refine rg_take 2 (some 42) (.pointer (some ⟨q,0,none⟩)) (by kernel_rfl) (fun _ _=>by kernel_rfl) (fun _ _ _ h=>h) (Below.refl _ _) ?_
  refine rg_take 3 (some 43) (.pointer (some ⟨q,0,none⟩)) (by kernel_rfl) (fun _ _=>by kernel_rfl) (fun _ _ _ h=>h) (Below.refl _ _) ?_
  refine rg_load 4 (some 44) (.slice la ln lc) 27 43 q 0 (by kernel_rfl) (by kernel_rfl) (by kernel_rfl) (fun w' h=>ld_ll ((h.cell (p:=⟨q,0,none⟩) hq5).trans c05.out)) (fun _ _ _ h=>h) (Below.refl _ _) ?_
  refine rg_take 5 (some 45) (.int .i64 lo) (by kernel_rfl) (fun _ _=>by kernel_rfl) (fun _ _ _ h=>h) (Below.refl _ _) ?_
  refine rg_take 6 (some 46) (.slice la lo lc) (by kernel_rfl) (fun _ _=>run_slh' (x:=44) (y:=45) HP5.out (by kernel_rfl) (by kernel_rfl) (by kernel_rfl) hlo5 _) (fun _ _ _ h=>h) (Below.refl _ _) ?_
  refine rg_load 8 (some 48) (.agg #[.slice a2 kn c2,.slice a3 vn c3]) 82 9 w3.heap.size 0 (by kernel_rfl) (by kernel_rfl) (by kernel_rfl) (fun w' h=>ld_pr ((h.cell (p:=⟨w3.heap.size,0,none⟩) he5).trans x05.out) ((h.cell (p:=⟨w3.heap.size,1,none⟩) he5).trans x15.out)) (fun _ _ _ h=>h) (Below.refl _ _) ?_
  refine rg_ready [7,9] (by kernel_rfl) (by simp) ?_
  refine ar_val 7 (some 47) v5a w5a (by kernel_rfl) (run_ap (x:=40) (y:=46) (T:=27) (ty:=27) (by kernel_rfl) (by kernel_rfl) (by kernel_rfl) (by kernel_rfl) hr5a.out) B5a.out ?_ (ar_val 9 (some 49) (.slice (some ⟨W5.drew.heap.size,0,none⟩) 1 1) (W5.drew.alloc (.cells #[.slice a2 kn c2,.slice a3 vn c3] 82)) (by kernel_rfl) (run_bsq (k:=48) (by kernel_rfl) (by kernel_rfl)) (below_alloc _ _) ?_ ar_nil)
  ·refine rg_ready [9] (by kernel_rfl) (by simp) (ar_val 9 (some 49) (.slice (some ⟨w5a.heap.size,0,none⟩) 1 1) (w5a.alloc (.cells #[.slice a2 kn c2,.slice a3 vn c3] 82)) (by kernel_rfl) (run_bsq (k:=48) (by kernel_rfl) (by kernel_rfl)) (joinB B5a.out (below_alloc _ _)) ?_ ar_nil)
   refine rg_ready [10] (by kernel_rfl) (by simp) (ar_val 10 (some 50) (.slice (some ⟨b6a,0,none⟩) (lo + 1) c6a) w6a (by kernel_rfl) (run_ap (x:=47) (y:=49) (T:=27) (ty:=27) (by kernel_rfl) (by kernel_rfl) (by kernel_rfl) (by kernel_rfl) hr6a.out) B6a.out ?_ ar_nil)
   refine rg_take 11 (some 10) (.slice (some ⟨b6a,0,none⟩) (lo + 1) c6a) (by kernel_rfl) (fun _ _=>by kernel_rfl) (fun _ _ _ h=>h) B6a.out ?_
   refine rg_done (by kernel_rfl) ?_
   exact ⟨(v5a,.slice (some ⟨w5a.heap.size,0,none⟩) 1 1,b6a,c6a),by kernel_rfl,P6a.out,joinB (belowD' W5) B6a.out⟩
  ·refine rg_ready [7] (by kernel_rfl) (by simp) (ar_val 7 (some 47) v5b w5b (by kernel_rfl) (run_ap (x:=40) (y:=46) (T:=27) (ty:=27) (by kernel_rfl) (by kernel_rfl) (by kernel_rfl) (by kernel_rfl) hr5b.out) B5b.out ?_ ar_nil)
   refine rg_ready [10] (by kernel_rfl) (by simp) (ar_val 10 (some 50) (.slice (some ⟨b6b,0,none⟩) (lo + 1) c6b) w6b (by kernel_rfl) (run_ap (x:=47) (y:=49) (T:=27) (ty:=27) (by kernel_rfl) (by kernel_rfl) (by kernel_rfl) (by kernel_rfl) hr6b.out) B6b.out ?_ ar_nil)
   refine rg_take 11 (some 10) (.slice (some ⟨b6b,0,none⟩) (lo + 1) c6b) (by kernel_rfl) (fun _ _=>by kernel_rfl) (fun _ _ _ h=>h) B6b.out ?_
   refine rg_done (by kernel_rfl) ?_
   exact ⟨(v5b,.slice (some ⟨W5.drew.heap.size,0,none⟩) 1 1,b6b,c6b),by kernel_rfl,P6b.out,joinB (belowD' W5) B6b.out⟩
 rintro ⟨v5,v49,b6,c6⟩ w6 ⟨P6,B6⟩
 dsimp only at P6
 simp only [putAll,Act.put,List.setIfInBounds_toArray,List.set_cons_zero,List.set_cons_succ]
 clear hr5a hr6a hr5b hr6b B5a B6a B5b B6b P6a P6b x05 x15 EN hW5 V2 V3
 have h6:(es.take lo ++ [(⟨.slice a2 kn c2,k,.slice a3 vn c3,v⟩:En)]).length=lo + 1:=by simp; omega
 obtain ⟨lp,hlp⟩:∃ lp,Hid (lo + (if is=true then 1 else 0)=lp):=⟨_,rfl⟩
 rw [hlp.out] at hlo6 hln6 HPU
 obtain ⟨v7,w7,hr7,P7,S7⟩:=app_drop (i:=lp) P6 B6.size (HP5.out.keep B6) hlo6 (by rw [h6,hel'.out]; have:=hlo5; rw [hel'.out] at this; omega)
 have B7:=B6.trans (Spr_below S7 B6.size)
 have h7:(es.take lo ++ [(⟨.slice a2 kn c2,k,.slice a3 vn c3,v⟩:En)] ++ es.drop lp).length=lo + 1 + (ln - lp):=by rw [List.length_append,h6,List.length_drop,hln.out]
 obtain ⟨b7,c7,rfl⟩:=P7.blkc (by simp) h7
 obtain ⟨X',hRX,hX1,hX2,hX3⟩:=R5.out.laid hZ5 B7 P7 (E':=put E k v) (by rw [HPU.out,List.map_append,List.map_append,List.map_take,List.map_drop,HE.out]; simp [En.kl2]) HPR.out.1 HPR.out.2
 have FF:=hid3 (show ∃ X',RS (w7.setCell ⟨q,0,none⟩ (.slice (some ⟨b7,0,none⟩) (lo + 1 + (ln - lp)) c7)) z X' q (put E k v) W (n + 1)/\(∀ b,X' b->X b\/w.heap.size<=b)/\(∀ b,X b->X' b)/\Chg (XU w X) w (w7.setCell ⟨q,0,none⟩ (.slice (some ⟨b7,0,none⟩) (lo + 1 + (ln - lp)) c7)) from ⟨X',hRX,fun b hb=>(hX1 b hb).imp id (fun h=>by have:=HC1.out.size; have:=B05.size; omega),hX2,((HC1.out.trans (Chg.of (F:=fun _=>False) B05) (fun _ _ h=>h.elim)).trans hX3 (fun _ _ h=>h)).mono (fun x _ e=>by have e':x=q:=e; subst e'; exact HX.out)⟩)
 have c06:=(R5.out.keep B6).top.cell (i:=0) rfl
 have c07:=(R5.out.keep B7).top.cell (i:=0) rfl
 have f07:=(R5.out.keep B7).top.free 0
 clear P6 S7 P7 hRX hX1 hX2 hX3 HR1 R5 HPU HPR B05 hZ5 c05
 have hlob:lo<=1000000:=by have:=hel'.out; omega
 rename_i hK0
 refine hK0 _ _ ?_
 clear hK0
 cases is with
 | false =>
  refine wp_seq ?_
  refine wp_seq ?_
  refine wp_region_lit ?_
  refine wk_take (some 51) (.bool false) rfl rfl (by kernel_rfl) ?_
  refine wk_end ?_
  refine wp_cond_false (by kernel_rfl) ?_
  refine wp_skip_then ?_
  have hlz:((lo:Nat):Int)=(lp:Int):=by have h:=hlp.out; simp at h; omega
  refine wp_seq ?_
  refine wp_region_lit ?_
  refine wk_take (some 54) (.pointer (some ⟨q,0,none⟩)) rfl rfl (by kernel_rfl) ?_
  refine wk_take (some 55) (.slice (some ⟨b6,0,none⟩) (lo + 1) c6) rfl rfl (by kernel_rfl) ?_
  refine wk_take (some 56) (.pointer (some ⟨q,0,none⟩)) rfl rfl (by kernel_rfl) ?_
  refine wk_take (some 57) (.pointer (some ⟨q,0,none⟩)) rfl rfl (by kernel_rfl) ?_
  refine wk_take (some 58) (.pointer (some ⟨q,0,none⟩)) rfl rfl (by kernel_rfl) ?_
  refine wk_take (some 59) (.slice la ln lc) rfl rfl (run_lp 58 (by kernel_rfl) (by kernel_rfl) (ld_ll c06)) ?_
  refine wk_take (some 60) (.int .i64 lo) rfl rfl (by kernel_rfl) ?_
  refine wk_take (some 61) (.slice (offL la lc lp) (ln - lp) (lc - lp)) rfl rfl (run_sll' (x:=59) (y:=60) HP5.out (by kernel_rfl) (by kernel_rfl) (by kernel_rfl) hlz hlo6 _) ?_
  refine wk_val (some 62) (.slice (some ⟨b7,0,none⟩) (lo + 1 + (ln - lp)) c7) rfl rfl (run_ap (x:=55) (y:=61) (T:=27) (ty:=27) (by kernel_rfl) (by kernel_rfl) (by kernel_rfl) (by kernel_rfl) hr7) ?_
  refine wk_take (some 63) (.pointer (some ⟨q,0,none⟩)) rfl rfl (by kernel_rfl) ?_
  refine wk_take (some 64) (.pointer (some ⟨q,0,none⟩)) rfl rfl (by kernel_rfl) ?_
  refine wk_skip (w1:=w7.setCell ⟨q,0,none⟩ (.slice (some ⟨b7,0,none⟩) (lo + 1 + (ln - lp)) c7)) rfl rfl (run_sol 64 62 (by kernel_rfl) (by kernel_rfl) (by kernel_rfl) c07 f07) ?_
  refine wk_end ?_
  simp only [Act.put,List.setIfInBounds_toArray,List.set_cons_zero,List.set_cons_succ]
  go_wp2
  go_ret
  exact ⟨rfl,FF.out⟩
 | true =>
  refine wp_seq ?_
  refine wp_seq ?_
  refine wp_region_lit ?_
  refine wk_take (some 51) (.bool true) rfl rfl (by kernel_rfl) ?_
  refine wk_end ?_
  refine wp_cond_true (by kernel_rfl) ?_
  refine wp_region_lit ?_
  refine wk_take (some 52) (.int .i64 lo) rfl rfl (by kernel_rfl) ?_
  refine wk_take (some 53) (.int .i64 ((lo:Int) + 1)) rfl rfl (run_add1 (x:=52) (by kernel_rfl) (by kernel_rfl) (by omega)) ?_
  refine wk_take (some 7) (.int .i64 ((lo:Int) + 1)) rfl rfl (by kernel_rfl) ?_
  refine wk_end ?_
  have hlz:((lo:Int) + 1)=(lp:Int):=by have h:=hlp.out; simp at h; omega
  refine wp_seq ?_
  refine wp_region_lit ?_
  refine wk_take (some 54) (.pointer (some ⟨q,0,none⟩)) rfl rfl (by kernel_rfl) ?_
  refine wk_take (some 55) (.slice (some ⟨b6,0,none⟩) (lo + 1) c6) rfl rfl (by kernel_rfl) ?_
  refine wk_take (some 56) (.pointer (some ⟨q,0,none⟩)) rfl rfl (by kernel_rfl) ?_
  refine wk_take (some 57) (.pointer (some ⟨q,0,none⟩)) rfl rfl (by kernel_rfl) ?_
  refine wk_take (some 58) (.pointer (some ⟨q,0,none⟩)) rfl rfl (by kernel_rfl) ?_
  refine wk_take (some 59) (.slice la ln lc) rfl rfl (run_lp 58 (by kernel_rfl) (by kernel_rfl) (ld_ll c06)) ?_
  refine wk_take (some 60) (.int .i64 ((lo:Int) + 1)) rfl rfl (by kernel_rfl) ?_
  refine wk_take (some 61) (.slice (offL la lc lp) (ln - lp) (lc - lp)) rfl rfl (run_sll' (x:=59) (y:=60) HP5.out (by kernel_rfl) (by kernel_rfl) (by kernel_rfl) hlz hlo6 _) ?_
  refine wk_val (some 62) (.slice (some ⟨b7,0,none⟩) (lo + 1 + (ln - lp)) c7) rfl rfl (run_ap (x:=55) (y:=61) (T:=27) (ty:=27) (by kernel_rfl) (by kernel_rfl) (by kernel_rfl) (by kernel_rfl) hr7) ?_
  refine wk_take (some 63) (.pointer (some ⟨q,0,none⟩)) rfl rfl (by kernel_rfl) ?_
  refine wk_take (some 64) (.pointer (some ⟨q,0,none⟩)) rfl rfl (by kernel_rfl) ?_
  refine wk_skip (w1:=w7.setCell ⟨q,0,none⟩ (.slice (some ⟨b7,0,none⟩) (lo + 1 + (ln - lp)) c7)) rfl rfl (run_sol 64 62 (by kernel_rfl) (by kernel_rfl) (by kernel_rfl) c07 f07) ?_
  refine wk_end ?_
  simp only [Act.put,List.setIfInBounds_toArray,List.set_cons_zero,List.set_cons_succ]
  go_wp2
  go_ret
  exact ⟨rfl,FF.out⟩
set_option maxHeartbeats 2000000 in
set_option maxRecDepth 100000 in
theorem rset_e0 {w:World} {z:Nat->Prop} {q n:Nat} {X:Nat->Prop} {E:Ents} {W:List Ents} {kv vv:Value} {k v:List Int} (h:RS w z X q E W n) (hk:By w kv k) (hv:By w vv v) (h0:k.length=0) (hn:n<=4000000000000000000) :
  Calls Tryz.prog 52 #[.pointer (some ⟨q,0,none⟩),kv,vv] w (FinRX w z X q E W (n + 1) 60):=by
 obtain ⟨lv,wv,hb,-,-⟩:=h.ex
 obtain ⟨R1,C1⟩:=h.done (m:=n + 1)
 obtain ⟨ka,kc,rfl,-⟩:=id hk.ex
 obtain ⟨va,vc,rfl,-⟩:=id hv.ex
 have d2:=hb.cell (i:=2) rfl
 have f2:=hb.free 2
 have e5:((n:Int) + 1)=((n + 1:Nat):Int):=by omega
 obtain ⟨W1,hW1⟩:∃ W1,Hid (w.setCell ⟨q,2,none⟩ (.int .i64 ((n + 1:Nat):Int))=W1):=⟨_,rfl⟩
 have hW2:w.setCell ⟨q,2,none⟩ (.int .i64 ((n:Int) + 1))=W1:=by rw [e5]; exact hW1.out
 rw [hW1.out] at R1 C1
 have FF:=hid3 (show ∃ X',RS W1 z X' q E W (n + 1)/\(∀ b,X' b->X b\/w.heap.size<=b)/\(∀ b,X b->X' b)/\Chg (XU w X) w W1 from ⟨X,R1,fun _ h=>.inl h,fun _ h=>h,C1.mono (fun x _ e=>by have e':x=q:=e; subst e'; exact h.noU)⟩)
 obtain ⟨kn,hkn⟩:∃ kn,Hid (k.length=kn):=⟨_,rfl⟩
 obtain ⟨vn,hvn⟩:∃ vn,Hid (v.length=vn):=⟨_,rfl⟩
 rw [hkn.out,hvn.out]
 have hkk:=hkn.out
 have hvv:=hvn.out
 have hk2:((kn:Int) < 1):=by omega
 clear hb R1 C1 h hk hv e5 hkk hvv
 go_enter Tryz.func52,Tryz.ntmps52
 go_wp2
 go_ret
 exact ⟨rfl,FF.out⟩
set_option maxHeartbeats 2000000 in
set_option maxRecDepth 100000 in
theorem rset_e1 {w:World} {z:Nat->Prop} {q n:Nat} {X:Nat->Prop} {E:Ents} {W:List Ents} {kv vv:Value} {k v:List Int} (h:RS w z X q E W n) (hk:By w kv k) (hv:By w vv v) (h1:64 < k.length) (hn:n<=4000000000000000000) :
  Calls Tryz.prog 52 #[.pointer (some ⟨q,0,none⟩),kv,vv] w (FinRX w z X q E W (n + 1) 60):=by
 obtain ⟨lv,wv,hb,-,-⟩:=h.ex
 obtain ⟨R1,C1⟩:=h.done (m:=n + 1)
 obtain ⟨ka,kc,rfl,-⟩:=id hk.ex
 obtain ⟨va,vc,rfl,-⟩:=id hv.ex
 have d2:=hb.cell (i:=2) rfl
 have f2:=hb.free 2
 have e5:((n:Int) + 1)=((n + 1:Nat):Int):=by omega
 obtain ⟨W1,hW1⟩:∃ W1,Hid (w.setCell ⟨q,2,none⟩ (.int .i64 ((n + 1:Nat):Int))=W1):=⟨_,rfl⟩
 have hW2:w.setCell ⟨q,2,none⟩ (.int .i64 ((n:Int) + 1))=W1:=by rw [e5]; exact hW1.out
 rw [hW1.out] at R1 C1
 have FF:=hid3 (show ∃ X',RS W1 z X' q E W (n + 1)/\(∀ b,X' b->X b\/w.heap.size<=b)/\(∀ b,X b->X' b)/\Chg (XU w X) w W1 from ⟨X,R1,fun _ h=>.inl h,fun _ h=>h,C1.mono (fun x _ e=>by have e':x=q:=e; subst e'; exact h.noU)⟩)
 obtain ⟨kn,hkn⟩:∃ kn,Hid (k.length=kn):=⟨_,rfl⟩
 obtain ⟨vn,hvn⟩:∃ vn,Hid (v.length=vn):=⟨_,rfl⟩
 rw [hkn.out,hvn.out]
 have hkk:=hkn.out
 have hvv:=hvn.out
 have hk2:¬ ((kn:Int) < 1):=by omega
 have hk3:((64:Int) < kn):=by omega
 clear hb R1 C1 h hk hv e5 hkk hvv
 go_enter Tryz.func52,Tryz.ntmps52
 go_wp2
 go_ret
 exact ⟨rfl,FF.out⟩
set_option maxHeartbeats 2000000 in
set_option maxRecDepth 100000 in
theorem rset_e2 {w:World} {z:Nat->Prop} {q n:Nat} {X:Nat->Prop} {E:Ents} {W:List Ents} {kv vv:Value} {k v:List Int} (h:RS w z X q E W n) (hk:By w kv k) (hv:By w vv v) (h0:¬ k.length=0) (h1:¬ 64 < k.length) (h2:4096 < v.length) (hn:n<=4000000000000000000) :
  Calls Tryz.prog 52 #[.pointer (some ⟨q,0,none⟩),kv,vv] w (FinRX w z X q E W (n + 1) 61):=by
 obtain ⟨lv,wv,hb,-,-⟩:=h.ex
 obtain ⟨R1,C1⟩:=h.done (m:=n + 1)
 obtain ⟨ka,kc,rfl,-⟩:=id hk.ex
 obtain ⟨va,vc,rfl,-⟩:=id hv.ex
 have d2:=hb.cell (i:=2) rfl
 have f2:=hb.free 2
 have e5:((n:Int) + 1)=((n + 1:Nat):Int):=by omega
 obtain ⟨W1,hW1⟩:∃ W1,Hid (w.setCell ⟨q,2,none⟩ (.int .i64 ((n + 1:Nat):Int))=W1):=⟨_,rfl⟩
 have hW2:w.setCell ⟨q,2,none⟩ (.int .i64 ((n:Int) + 1))=W1:=by rw [e5]; exact hW1.out
 rw [hW1.out] at R1 C1
 have FF:=hid3 (show ∃ X',RS W1 z X' q E W (n + 1)/\(∀ b,X' b->X b\/w.heap.size<=b)/\(∀ b,X b->X' b)/\Chg (XU w X) w W1 from ⟨X,R1,fun _ h=>.inl h,fun _ h=>h,C1.mono (fun x _ e=>by have e':x=q:=e; subst e'; exact h.noU)⟩)
 obtain ⟨kn,hkn⟩:∃ kn,Hid (k.length=kn):=⟨_,rfl⟩
 obtain ⟨vn,hvn⟩:∃ vn,Hid (v.length=vn):=⟨_,rfl⟩
 rw [hkn.out,hvn.out]
 have hkk:=hkn.out
 have hvv:=hvn.out
 have hk2:¬ ((kn:Int) < 1):=by omega
 have hk3:¬ ((64:Int) < kn):=by omega
 have hv3:((4096:Int) < vn):=by omega
 clear hb R1 C1 h hk hv e5 hkk hvv
 go_enter Tryz.func52,Tryz.ntmps52
 go_wp2
 go_ret
 exact ⟨rfl,FF.out⟩
theorem rset {w:World} {z:Nat->Prop} {q n:Nat} {X:Nat->Prop} {E:Ents} {W:List Ents} {kv vv:Value} {k v:List Int} (h:RS w z X q E W n) (hZ:∀ b,w.heap.size<=b->z b) (hk:By w kv k) (hv:By w vv v) (hkq:By (w.setCell ⟨q,2,none⟩ (.int .i64 ((n + 1:Nat):Int))) kv k) (hvq:By (w.setCell ⟨q,2,none⟩ (.int .i64 ((n + 1:Nat):Int))) vv v) (hn:n<=4000000000000000000) (hm:E.length<=1000000) :
  Calls Tryz.prog 52 #[.pointer (some ⟨q,0,none⟩),kv,vv] w (FinRX w z X q (if setE k v=0 then put E k v else E) W (n + 1) (setE k v)):=by
 by_cases h0:k.length=0
 ·have e:setE k v=60:=by unfold setE; rw [if_pos (.inl h0)]
  rw [e,if_neg (by decide)]
  exact rset_e0 h hk hv h0 hn
 ·by_cases h1:64 < k.length
  ·have e:setE k v=60:=by unfold setE; rw [if_pos (.inr h1)]
   rw [e,if_neg (by decide)]
   exact rset_e1 h hk hv h1 hn
  ·by_cases h2:4096 < v.length
   ·have e:setE k v=61:=by unfold setE; rw [if_neg (by omega),if_pos h2]
    rw [e,if_neg (by decide)]
    exact rset_e2 h hk hv h0 h1 h2 hn
   ·have e:setE k v=0:=by unfold setE; rw [if_neg (by omega),if_neg h2]
    rw [e,if_pos rfl]
    exact rset_ok h hZ hk hv hkq hvq h0 (by omega) (by omega) hn hm
end Kv
end Go.Proofs.YtfpclhjmfpfhiaaGreat
namespace Go.Proofs.YtfpclhjmfpfhiaaGreat
namespace Kv
open Go.RowKit Go.Lib Pg
attribute [local go_sem] Oper.semAt_some
theorem run_apk {a:Act} {w w':World} {o:Oper} {y:Nat} {T ty:TypeId} {u v r:Value} (hty:o.type=ty) (ho:o.op=.call { callee:=.builtin .append,args:=#[.const u,.tmp y],argTypes:=#[T,T] }) (hy:a.eval (.tmp y)=v) (hr:(Builtin.append_ #[T,T] ty #[u,v]).run Tryz.prog w=.ok r w') :
  (execOp a.eval o).run Tryz.prog w=.ok (.value r) w':=by
 subst hty
 unfold execOp
 have hx:a.eval (.const u)=u:=rfl
 simp only [ho,resolve,invoke,builtin,Sem.run_bind,Sem.run_pure,Result.andThen_ok,List.map_toArray,List.map_cons,List.map_nil,hx,hy,hr]
theorem RO.laidA {w w7:World} {z:Nat->Prop} {q n:Nat} {X:Nat->Prop} {lv wv:Value} {es es7:List En} {W:List Ents} {a7:Option Addr} {m7 c7:Nat} (h:RO w z X q lv wv es W n) (hZ:∀ b,w.heap.size<=b->z b) (B:Below w.heap.size w w7) (P7:Pq w7 w.heap.size z (.slice a7 m7 c7) es7) {E':Ents} (hE:es7.map En.kl2=E') (hr:Rise E') (hs:∀ x∈E',x.1.length<=1000000000/\x.2.length<=1000000000) :
  ∃ X',RS (w7.setCell ⟨q,0,none⟩ (.slice a7 m7 c7)) z X' q E' W n/\(∀ b,X' b->X b\/w.heap.size<=b)/\(∀ b,X b->X' b)/\Chg (· = q) w (w7.setCell ⟨q,0,none⟩ (.slice a7 m7 c7)):=by
 rcases P7.ex with ⟨e,e2⟩ | ⟨b,c,e,_⟩
 ·cases e
  have h7:=h.keep B
  have C9:Chg (· = q) w7 (w7.setCell ⟨q,0,none⟩ (.slice none 0 0)):=(Chg.refl (fun x=>x=q) w7).cell (.inl rfl) _
  have hs9:=C9.size
  subst e2
  exact ⟨X,⟨⟨_,_,h7.top.setCell (i:=0) _,⟨⟨[],Pq.nil _ _ _,hE⟩,fun b m c e=>by cases e⟩,h7.was.chg C9 (fun b e _=>by subst e; exact ⟨_,_,h7.top,by decide,by decide⟩) h7.noU⟩,h.xq,fun b hx=>⟨(h7.xz b hx).1,by have:=(h7.xz b hx).2; omega⟩,hr,hs⟩,fun _ h=>.inl h,fun _ h=>h,(Chg.of (F:=fun x=>x=q) B).trans C9 (fun _ _ h=>h)⟩
 ·cases e
  exact h.laid hZ B P7 hE hr hs
structure FinRY (w:World) (z:Nat->Prop) (X:Nat->Prop) (q:Nat) (E:Ents) (W:List Ents) (n:Nat) (r:Bool) (e:Ending) (w':World):Prop where
 ret:e=.returned (.bool r)
 ex:∃ X',RS w' z X' q E W n/\(∀ b,X' b->X b\/w.heap.size<=b)/\(∀ b,X b->X' b)/\Chg (XU w X) w w'
set_option maxHeartbeats 2000000 in
set_option maxRecDepth 100000 in
theorem rdel {w:World} {z:Nat->Prop} {q n:Nat} {X:Nat->Prop} {E:Ents} {W:List Ents} {kv:Value} {k:List Int} (h:RS w z X q E W n) (hZ:∀ b,w.heap.size<=b->z b) (hk:By w kv k) (hkq:By (w.setCell ⟨q,2,none⟩ (.int .i64 ((n + 1:Nat):Int))) kv k) (hkl:k.length<=1000000000) (hn:n<=4000000000000000000) (hm:E.length<=1000000) :
  Calls Tryz.prog 51 #[.pointer (some ⟨q,0,none⟩),kv] w (FinRY w z X q (rem E k) W (n + 1) (look E k).isSome):=by
 obtain ⟨lv,wv,es,R0,he⟩:=h.ro
 obtain ⟨R1,C1⟩:=R0.done (m:=n + 1)
 have hel:es.length=E.length:=by rw [<- he,List.length_map]
 have up:=rplace (m:=E.length) R1.top R1.row (by rw [he]; exact h.rise) hkq hkl (fun e hx=>(h.small e.kl2 (by rw [<- he]; exact List.mem_map_of_mem hx)).1) hel hm
 rw [he] at up
 obtain ⟨k1,-,-,k4⟩:=cnt_look h.rise k
 obtain ⟨la,lc,rfl⟩:=R0.row.shape
 obtain ⟨ka,kc,rfl,-⟩:=id hk.ex
 obtain ⟨lo,hlo⟩:∃ lo,Hid (cnt E k=lo):=⟨_,rfl⟩
 have hlo5:lo<=es.length:=by rw [<- hlo.out,hel]; exact cnt_le E k
 have hpr:Rise (rem E k)/\∀ x∈rem E k,x.1.length<=1000000000/\x.2.length<=1000000000:=⟨h.rise.rem k,fun x hx=>h.small x (List.mem_filter.1 hx).1⟩
 rw [hlo.out] at k1 k4
 obtain ⟨kn,hkn⟩:∃ kn,Hid (k.length=kn):=⟨_,rfl⟩
 obtain ⟨ln,hln⟩:∃ ln,Hid (es.length=ln):=⟨_,rfl⟩
 rw [hlo.out,hkn.out] at up
 rw [hkn.out]
 rw [hln.out] at R0 R1
 have d2:=R0.top.cell (i:=2) rfl
 have f2:=R0.top.free 2
 have e5:((n:Int) + 1)=((n + 1:Nat):Int):=by omega
 obtain ⟨W1,hW1⟩:∃ W1,Hid (w.setCell ⟨q,2,none⟩ (.int .i64 ((n + 1:Nat):Int))=W1):=⟨_,rfl⟩
 have hW2:w.setCell ⟨q,2,none⟩ (.int .i64 ((n:Int) + 1))=W1:=by rw [e5]; exact hW1.out
 rw [hW1.out] at up R1 C1
 have HR1:=hid3 R1
 have HC1:=hid3 C1
 have HE:=hid3 he
 have HX:=hid3 h.noU
 have HPR:=hid3 hpr
 have HK4:=hid3 k4
 have hZ':=hid3 hZ
 have hel':=hid3 hel
 have hqx:=(h.xz q h.xq).2
 have hCX:Hid (Chg (XU w X) w W1):=C1.mono (fun x _ e=>by have e':x=q:=e; subst e'; exact h.noU)
 have hsm:=hid3 h.small
 have hri:=hid3 h.rise
 cases hl:(look E k).isSome with
 | false =>
  rw [hl] at up HK4
  have up':=hid3 up
  have hrem:rem E k=E:=by rw [HK4.out]; simp
  rw [hrem]
  clear R1 C1 up h hk hkq he e5 hel R0 k1 k4 hpr hZ hrem
  go_enter Tryz.func51,Tryz.ntmps51
  go_wp2_with (go_at_call 59; go_must (refine up'.out.mono ?_); rintro e w2 ⟨rfl,B2⟩; clear up')
  go_ret
  exact ⟨rfl,X,(HR1.out.keep B2).rs HE.out hri.out hsm.out,fun _ h=>.inl h,fun _ h=>h,hCX.out.trans (Chg.of (F:=XU w X) B2) (fun _ _ h=>h)⟩
 | true =>
  rw [hl] at up HK4 k1
  have up':=hid3 up
  have hlo6:lo + 1<=es.length:=by
   cases e:E[lo]? with
   | none=>rw [e] at k1; cases k1
   | some y=>have:=(List.getElem?_eq_some_iff.1 e).1; omega
  have hlob:lo<=1000000:=by omega
  have hlz:((lo:Int) + 1)=((lo + 1:Nat):Int):=by omega
  clear R1 C1 up h hk hkq he e5 hel R0 k1 k4 hpr hZ
  go_enter Tryz.func51,Tryz.ntmps51
  go_wp2_with (go_at_call 59; go_must (refine up'.out.mono ?_); rintro e W2 ⟨rfl,B2⟩; clear up')
  have R2:=hid3 ((HR1.out.keep B2).keep (belowD' W2))
  have HP1:=hid3 R2.out.row
  have hZ5:∀ b,W2.drew.heap.size<=b->z b:=fun b hb=>hZ'.out b (by have:=HC1.out.size; have:=B2.size; have:W2.heap.size<=b:=hb; omega)
  obtain ⟨v5,w5,hr5,P5,S5⟩:=app_take (ov:=.slice none 0 0) (es:=[]) (Pq.nil W2.drew W2.drew.heap.size z) (Nat.le_refl _) HP1.out hlo5 (by have:=hel'.out; simp; omega)
  rw [List.nil_append] at P5
  have b5:=Spr_below S5 (Nat.le_refl _)
  obtain ⟨v7,w7,hr7,P7,S7⟩:=app_drop (i:=lo + 1) P5 b5.size (HP1.out.keep b5) hlo6 (by rw [List.length_take]; have:=hel'.out; omega)
  have b7:=b5.trans (Spr_below S7 b5.size)
  obtain ⟨a7,c7,rfl⟩:=P7.shape
  obtain ⟨m7,hm7⟩:∃ m7,Hid ((es.take lo ++ es.drop (lo + 1)).length=m7):=⟨_,rfl⟩
  rw [hm7.out] at hr7 P7
  obtain ⟨X',hRX,hX1,hX2,hX3⟩:=R2.out.laidA hZ5 b7 P7 (E':=rem E k) (by rw [HK4.out,List.map_append,List.map_take,List.map_drop,HE.out]; simp) HPR.out.1 HPR.out.2
  have FF:=hid3 (show ∃ X',RS (w7.setCell ⟨q,0,none⟩ (.slice a7 m7 c7)) z X' q (rem E k) W (n + 1)/\(∀ b,X' b->X b\/w.heap.size<=b)/\(∀ b,X b->X' b)/\Chg (XU w X) w (w7.setCell ⟨q,0,none⟩ (.slice a7 m7 c7)) from ⟨X',hRX,fun b hb=>(hX1 b hb).imp id (fun h=>by have:=HC1.out.size; have:=B2.size; have:W2.heap.size<=b:=h; omega),hX2,(hCX.out.trans (Chg.of (F:=XU w X) (joinB B2 (belowD' W2))) (fun _ _ h=>h)).trans hX3 (fun x _ e=>by have e':x=q:=e; subst e'; exact HX.out)⟩)
  have c0d:=hid3 (R2.out.top.cell (i:=0) rfl)
  have c05:=hid3 ((R2.out.keep b5).top.cell (i:=0) rfl)
  have c07:=hid3 ((R2.out.keep b7).top.cell (i:=0) rfl)
  have f07:=hid3 ((R2.out.keep b7).top.free 0)
  replace hr5:=hid3 hr5
  replace hr7:=hid3 hr7
  clear P5 S5 P7 S7 hRX hX1 hX2 hX3 hZ5
  refine rg_start (S:=fun _=>True) (by kernel_rfl) trivial ?_
  refine rg_take 0 (some 21) (.pointer (some ⟨q,0,none⟩)) (by kernel_rfl) (fun _ _=>by kernel_rfl) (fun _ _ _ h=>h) trivial ?_
  refine rg_take 1 (some 22) (.pointer (some ⟨q,0,none⟩)) (by kernel_rfl) (fun _ _=>by kernel_rfl) (fun _ _ _ h=>h) trivial ?_
  refine rg_take 2 (some 23) (.pointer (some ⟨q,0,none⟩)) (by kernel_rfl) (fun _ _=>by kernel_rfl) (fun _ _ _ h=>h) trivial ?_
  refine rg_take 3 (some 24) (.pointer (some ⟨q,0,none⟩)) (by kernel_rfl) (fun _ _=>by kernel_rfl) (fun _ _ _ h=>h) trivial ?_
  refine rg_take 5 (some 26) (.int .i64 lo) (by kernel_rfl) (fun _ _=>by kernel_rfl) (fun _ _ _ h=>h) trivial ?_
  refine rg_take 8 (some 29) (.pointer (some ⟨q,0,none⟩)) (by kernel_rfl) (fun _ _=>by kernel_rfl) (fun _ _ _ h=>h) trivial ?_
  refine rg_take 9 (some 30) (.pointer (some ⟨q,0,none⟩)) (by kernel_rfl) (fun _ _=>by kernel_rfl) (fun _ _ _ h=>h) trivial ?_
  refine rg_take 10 (some 31) (.pointer (some ⟨q,0,none⟩)) (by kernel_rfl) (fun _ _=>by kernel_rfl) (fun _ _ _ h=>h) trivial ?_
  refine rg_take 12 (some 33) (.int .i64 lo) (by kernel_rfl) (fun _ _=>by kernel_rfl) (fun _ _ _ h=>h) trivial ?_
  refine rg_take 13 (some 34) (.int .i64 ((lo:Int) + 1)) (by kernel_rfl) (fun _ _=>run_add1 (x:=33) (by kernel_rfl) (by kernel_rfl) (by omega)) (fun _ _ _ h=>h) trivial ?_
  refine rg_ready [4,11] (by kernel_rfl) (by simp) (ar_val 4 (some 25) (.slice la ln lc) (W2.drew) (by kernel_rfl) (run_lp 24 (by kernel_rfl) (by kernel_rfl) (ld_ll c0d.out)) trivial ?_ (ar_val 11 (some 32) (.slice la ln lc) (W2.drew) (by kernel_rfl) (run_lp 31 (by kernel_rfl) (by kernel_rfl) (ld_ll c0d.out)) trivial ?_ ar_nil))
  ·refine rg_take 6 (some 27) (.slice la lo lc) (by kernel_rfl) (fun _ _=>run_slh' (x:=25) (y:=26) HP1.out (by kernel_rfl) (by kernel_rfl) (by kernel_rfl) hlo5 _) (fun _ _ _ h=>h) trivial ?_
   refine rg_ready [7,11] (by kernel_rfl) (by simp) (ar_val 7 (some 28) v5 w5 (by kernel_rfl) (run_apk (y:=27) (T:=27) (ty:=27) (by kernel_rfl) (by kernel_rfl) (by kernel_rfl) hr5.out) trivial ?_ (ar_val 11 (some 32) (.slice la ln lc) (W2.drew) (by kernel_rfl) (run_lp 31 (by kernel_rfl) (by kernel_rfl) (ld_ll c0d.out)) trivial ?_ ar_nil))
   ·refine rg_ready [11] (by kernel_rfl) (by simp) (ar_val 11 (some 32) (.slice la ln lc) (w5) (by kernel_rfl) (run_lp 31 (by kernel_rfl) (by kernel_rfl) (ld_ll c05.out)) trivial ?_ ar_nil)
    refine rg_take 14 (some 35) (.slice (offL la lc (lo + 1)) (ln - (lo + 1)) (lc - (lo + 1))) (by kernel_rfl) (fun _ _=>run_sll' (x:=32) (y:=34) HP1.out (by kernel_rfl) (by kernel_rfl) (by kernel_rfl) hlz hlo6 _) (fun _ _ _ h=>h) trivial ?_
    refine rg_ready [15] (by kernel_rfl) (by simp) (ar_val 15 (some 36) (.slice a7 m7 c7) w7 (by kernel_rfl) (run_ap (x:=28) (y:=35) (T:=27) (ty:=27) (by kernel_rfl) (by kernel_rfl) (by kernel_rfl) (by kernel_rfl) hr7.out) trivial ?_ ar_nil)
    refine rg_take 16 (some 37) (.pointer (some ⟨q,0,none⟩)) (by kernel_rfl) (fun _ _=>by kernel_rfl) (fun _ _ _ h=>h) trivial ?_
    refine rg_take 17 (some 38) (.pointer (some ⟨q,0,none⟩)) (by kernel_rfl) (fun _ _=>by kernel_rfl) (fun _ _ _ h=>h) trivial ?_
    refine rg_ready [18] (by kernel_rfl) (by simp) (ar_void 18 (w7.setCell ⟨q,0,none⟩ (.slice a7 m7 c7)) (by kernel_rfl) (run_sol 38 36 (by kernel_rfl) (by kernel_rfl) (by kernel_rfl) c07.out f07.out) trivial ?_ ar_nil)
    refine rg_done (by kernel_rfl) ?_
    simp only [Act.put,List.setIfInBounds_toArray,List.set_cons_zero,List.set_cons_succ]
    go_wp2
    go_ret
    exact ⟨rfl,FF.out⟩
   ·refine rg_take 14 (some 35) (.slice (offL la lc (lo + 1)) (ln - (lo + 1)) (lc - (lo + 1))) (by kernel_rfl) (fun _ _=>run_sll' (x:=32) (y:=34) HP1.out (by kernel_rfl) (by kernel_rfl) (by kernel_rfl) hlz hlo6 _) (fun _ _ _ h=>h) trivial ?_
    refine rg_ready [7] (by kernel_rfl) (by simp) (ar_val 7 (some 28) v5 w5 (by kernel_rfl) (run_apk (y:=27) (T:=27) (ty:=27) (by kernel_rfl) (by kernel_rfl) (by kernel_rfl) hr5.out) trivial ?_ ar_nil)
    refine rg_ready [15] (by kernel_rfl) (by simp) (ar_val 15 (some 36) (.slice a7 m7 c7) w7 (by kernel_rfl) (run_ap (x:=28) (y:=35) (T:=27) (ty:=27) (by kernel_rfl) (by kernel_rfl) (by kernel_rfl) (by kernel_rfl) hr7.out) trivial ?_ ar_nil)
    refine rg_take 16 (some 37) (.pointer (some ⟨q,0,none⟩)) (by kernel_rfl) (fun _ _=>by kernel_rfl) (fun _ _ _ h=>h) trivial ?_
    refine rg_take 17 (some 38) (.pointer (some ⟨q,0,none⟩)) (by kernel_rfl) (fun _ _=>by kernel_rfl) (fun _ _ _ h=>h) trivial ?_
    refine rg_ready [18] (by kernel_rfl) (by simp) (ar_void 18 (w7.setCell ⟨q,0,none⟩ (.slice a7 m7 c7)) (by kernel_rfl) (run_sol 38 36 (by kernel_rfl) (by kernel_rfl) (by kernel_rfl) c07.out f07.out) trivial ?_ ar_nil)
    refine rg_done (by kernel_rfl) ?_
    simp only [Act.put,List.setIfInBounds_toArray,List.set_cons_zero,List.set_cons_succ]
    go_wp2
    go_ret
    exact ⟨rfl,FF.out⟩
  ·refine rg_take 14 (some 35) (.slice (offL la lc (lo + 1)) (ln - (lo + 1)) (lc - (lo + 1))) (by kernel_rfl) (fun _ _=>run_sll' (x:=32) (y:=34) HP1.out (by kernel_rfl) (by kernel_rfl) (by kernel_rfl) hlz hlo6 _) (fun _ _ _ h=>h) trivial ?_
   refine rg_ready [4] (by kernel_rfl) (by simp) (ar_val 4 (some 25) (.slice la ln lc) (W2.drew) (by kernel_rfl) (run_lp 24 (by kernel_rfl) (by kernel_rfl) (ld_ll c0d.out)) trivial ?_ ar_nil)
   refine rg_take 6 (some 27) (.slice la lo lc) (by kernel_rfl) (fun _ _=>run_slh' (x:=25) (y:=26) HP1.out (by kernel_rfl) (by kernel_rfl) (by kernel_rfl) hlo5 _) (fun _ _ _ h=>h) trivial ?_
   refine rg_ready [7] (by kernel_rfl) (by simp) (ar_val 7 (some 28) v5 w5 (by kernel_rfl) (run_apk (y:=27) (T:=27) (ty:=27) (by kernel_rfl) (by kernel_rfl) (by kernel_rfl) hr5.out) trivial ?_ ar_nil)
   refine rg_ready [15] (by kernel_rfl) (by simp) (ar_val 15 (some 36) (.slice a7 m7 c7) w7 (by kernel_rfl) (run_ap (x:=28) (y:=35) (T:=27) (ty:=27) (by kernel_rfl) (by kernel_rfl) (by kernel_rfl) (by kernel_rfl) hr7.out) trivial ?_ ar_nil)
   refine rg_take 16 (some 37) (.pointer (some ⟨q,0,none⟩)) (by kernel_rfl) (fun _ _=>by kernel_rfl) (fun _ _ _ h=>h) trivial ?_
   refine rg_take 17 (some 38) (.pointer (some ⟨q,0,none⟩)) (by kernel_rfl) (fun _ _=>by kernel_rfl) (fun _ _ _ h=>h) trivial ?_
   refine rg_ready [18] (by kernel_rfl) (by simp) (ar_void 18 (w7.setCell ⟨q,0,none⟩ (.slice a7 m7 c7)) (by kernel_rfl) (run_sol 38 36 (by kernel_rfl) (by kernel_rfl) (by kernel_rfl) c07.out f07.out) trivial ?_ ar_nil)
   refine rg_done (by kernel_rfl) ?_
   simp only [Act.put,List.setIfInBounds_toArray,List.set_cons_zero,List.set_cons_succ]
   go_wp2
   go_ret
   exact ⟨rfl,FF.out⟩
end Kv
end Go.Proofs.YtfpclhjmfpfhiaaGreat
