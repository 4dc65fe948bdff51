/- Several texts, joined: BkA, BkB, BkC, BkD, BkE, BkF, BkG, KvCb, KvLi, KvCc, KvCd, KvCe, KvCg, BkH, BkI, BkK. -/
import Derived.Test.YtfpclhjmfpfhiaaGreatJad
import Derived.Test.YtfpclhjmfpfhiaaGreatJae
import Derived.Test.YtfpclhjmfpfhiaaGreatJag
import Derived.Test.YtfpclhjmfpfhiaaGreatJaj
import Derived.Test.YtfpclhjmfpfhiaaGreatJah
import Derived.Lib.SlBytesConst
namespace Go.Proofs.YtfpclhjmfpfhiaaGreat
namespace Bk
open Go.RowKit Go.Lib Pg Lim Gl Kv
structure Sx (B:Nat) (w:World) (K:Nat->Prop) (g:Nat) (E:Ents) (W:List Ents) (n N:Nat):Prop where
 sa:SA w K (B <= ·) g E W n N
 lo:B<=w.heap.size
 kb:∀ b,K b->B<=b
structure SxE (B:Nat) (w:World) (K:Nat->Prop) (g:Nat) (E:Ents) (W:List Ents) (n N:Nat) (r:Value) (e:Ending) (w':World):Prop where
 ret:e=.returned r
 ex:∃ K',Sx B w' K' g E W n N/\(∀ b,K' b->K b\/w.heap.size<=b)/\Chg K w w'
structure SxF (B:Nat) (w:World) (K:Nat->Prop) (g:Nat) (E:Ents) (W:List Ents) (n N:Nat) (r:Value) (e:Ending) (w':World):Prop where
 ret:e=.returned r
 ex:∃ K' n' N',Sx B w' K' g E W n' N'/\n'<=n + 10/\N'<=N + 10/\(∀ b,K' b->K b\/w.heap.size<=b)/\Chg K w w'
structure At (B:Nat) (w0:World) (K0:Nat->Prop) (w:World) (K:Nat->Prop) (g:Nat) (E:Ents) (W:List Ents) (n N:Nat):Prop where
 sx:Sx B w K g E W n N
 km:∀ b,K b->K0 b\/w0.heap.size<=b
 cc:Chg K0 w0 w
section
variable {B:Nat} {w0 w w':World} {K0 K K':Nat->Prop} {g:Nat} {E E':Ents} {W W':List Ents} {n N n' N':Nat}
theorem Sx.at (h:Sx B w K g E W n N):At B w K w K g E W n N:=⟨h,fun _ h=>.inl h,Chg.refl _ _⟩
theorem Sx.keep (h:Sx B w K g E W n N) (b:Below w.heap.size w w'):Sx B w' K g E W n N:=⟨h.sa.keep b,Nat.le_trans h.lo b.size,h.kb⟩
theorem At.keep (h:At B w0 K0 w K g E W n N) (b:Below w.heap.size w w'):At B w0 K0 w' K g E W n N:=⟨h.sx.keep b,h.km,h.cc.trans (Chg.of (F:=fun _=>False) b) (fun _ _ h=>h.elim)⟩
theorem At.drew (h:At B w0 K0 w K g E W n N):At B w0 K0 w.drew K g E W n N:=h.keep (Below.refl _ _).drew
theorem At.lt (h:At B w0 K0 w K g E W n N) {b:Nat} (hb:K b):b < w.heap.size:=h.sx.sa.lt hb
theorem At.size (h:At B w0 K0 w K g E W n N):w0.heap.size<=w.heap.size:=h.cc.size
theorem At.cell {x:Nat} {cs:List Value} {t:TypeId} (h:At B w0 K0 w K g E W n N) (X:Blk w x cs t) (C:Chg (· = x) w w') (hx:w0.heap.size<=x) (hk:¬ K x) (ht:t≠5):At B w0 K0 w' K g E W n N:=by
 refine ⟨⟨h.sx.sa.chg C (fun b e hb=>hk ((show b=x from e)▸hb)) (fun b e cs' k => ?_),Nat.le_trans h.sx.lo C.size,h.sx.kb⟩,h.km,h.cc.trans C (fun b hb e=>by have e':b=x:=e; omega)⟩
 have e':b=x:=e
 subst e'
 exact ht (X.eq k).2
theorem At.op (h:At B w0 K0 w K g E W n N) (hs:Sx B w' K' g E' W' n' N') (hK:∀ b,K' b->K b\/w.heap.size<=b) (hc:Chg K w w'):At B w0 K0 w' K' g E' W' n' N' :=
 ⟨hs,fun b hb=>(hK b hb).elim (h.km b) (fun h2=>.inr (Nat.le_trans h.cc.size h2)),h.cc.trans hc (fun b hb hk=>(h.km b hk).elim id (fun h2=>by omega))⟩
theorem not_op {x:Nat} {cs:List Value} {t:TypeId} (X:Blk w x cs t) (hn:¬ K x) (hK:∀ b,K' b->K b\/w.heap.size<=b):¬ K' x:=fun h=>(hK x h).elim hn (fun h2=>by have:=X.lt; omega)
theorem At.new {x:Nat} (h:At B w0 K0 w K g E W n N) (hx:w.heap.size<=x):¬ K x:=fun hk=>by have:=h.lt hk; omega
theorem At.byu {v:Value} {l:List Int} (h:At B w0 K0 w K g E W n N) (hv:ByU w v l) (C:Chg K w w'):ByU w' v l:=hv.chg C h.sx.sa.kind
theorem byu_keep {v:Value} {l:List Int} (h:ByU w v l) (b:Below w.heap.size w w'):ByU w' v l:=h.chg (K:=fun _=>False) (Chg.of b) (fun _ h=>h.elim)
theorem byu_cell {x:Nat} {cs:List Value} {t:TypeId} {v:Value} {l:List Int} (h:ByU w v l) (X:Blk w x cs t) (C:Chg (· = x) w w') (ht:t≠5):ByU w' v l:=h.chg C (fun b e=>⟨cs,t,by have e':b=x:=e; subst e'; exact X,ht⟩)
theorem Sx.bk {v:Value} {l:List Int} (h:Sx B w K g E W n N) (hv:ByU w v l):BK w K v l:=fun _ hc=>(hv.chg hc h.sa.kind).byt
theorem Sx.ends {r:Value} {P:Nat} {args:Array Value} (h:Sx B w K g E W n N) (u:Calls Tryz.prog P args w (Kv.Ends w K (B <= ·) g E' W' n' N' r)):Calls Tryz.prog P args w (SxE B w K g E' W' n' N' r):=by
 refine u.mono ?_
 rintro e w' ⟨rfl,K',hs,hK,hc⟩
 exact ⟨rfl,K',⟨hs.mono (fun b _ hb=>hb.elim id (Nat.le_trans h.lo)),Nat.le_trans h.lo hc.size,fun b hb=>(hK b hb).elim (h.kb b) (Nat.le_trans h.lo)⟩,hK,hc⟩
theorem xset {kv vv:Value} {k v:List Int} (h:Sx B w K g E W n N) (hk:ByU w kv k) (hv:ByU w vv v) (hn:n<=4000000000000000000) (hN:N + 2<=100000000) :
  Calls Tryz.prog 49 #[pg g,kv,vv] w (SxE B w K g (if setE k v=0 then put E k v else E) W (n + 1) (N + 2) (.int .i64 (setE k v))):=h.ends (sset h.sa (h.bk hk) (h.bk hv) hn hN)
theorem xdel {kv:Value} {k:List Int} (h:Sx B w K g E W n N) (hk:ByU w kv k) (hkl:k.length<=1000000000) (hn:n<=4000000000000000000) (hN:N + 2<=100000000) :
  Calls Tryz.prog 48 #[pg g,kv] w (SxE B w K g (rem E k) W (n + 1) (N + 2) (.bool (Kv.look E k).isSome)):=h.ends (sdel h.sa (h.bk hk) hkl hn hN)
structure GetE (B:Nat) (w:World) (K:Nat->Prop) (g:Nat) (E:Ents) (W:List Ents) (n N:Nat) (k:List Int) (e:Ending) (w':World):Prop where
 ex:∃ v,e=.returned (.tuple #[v,.bool (Kv.look E k).isSome])/\ByU w' v ((Kv.look E k).getD [])/\Sx B w' K g E W n N/\Chg K w w'
theorem xget {kv:Value} {k:List Int} (h:Sx B w K g E W n N) (hk:ByU w kv k) (hn:n<=4000000000000000000) (hN:N<=100000000) :
  Calls Tryz.prog 32 #[pg g,kv] w (GetE B w K g E W (n + 1) N k):=by
 refine (sget h.sa (h.bk hk) hn hN).mono ?_
 rintro e w' ⟨v,rfl,O,S,C⟩
 exact ⟨v,rfl,ByU.of O,⟨S,Nat.le_trans h.lo C.size,h.kb⟩,C⟩
end
theorem bya {w:World} {v:Value} {l:List Int} (h:By w v l):∃ b ao c,v=.slice ao l.length c/\ByA w b ao l.length c l:=by
 obtain ⟨ao,c,e,h1,h2,h3,h4,h5⟩:=h.ex
 rcases h5 with rfl | ⟨b,o,rfl,_,h6⟩
 ·exact ⟨0,ao,c,e,0,rfl,h1,⟨h2,h3⟩,h4,.inl rfl,fun i hi=>absurd hi (by simp)⟩
 ·exact ⟨b,_,c,e,o,rfl,h1,⟨h2,h3⟩,h4,.inr rfl,fun i hi=>h6 i _ (by rw [nth_eq hi]; exact List.getElem?_eq_getElem hi)⟩
theorem byu_box {w:World} {b n:Nat} {l:List Int} (h:Box w b (l.map (Value.int .u8)) 5) (ho:Oct l) (hn:n=l.length) (hl:l.length<=1000000):ByU w (.slice (some ⟨b,0,none⟩) n n) l:=by
 subst hn
 refine ⟨⟨_,_,rfl,Nat.le_refl _,by omega,fun e=>by simp at e,ho,.inr ⟨b,0,rfl,h.lt,fun i x hi => ?_⟩⟩,fun b' o n' c e => ?_⟩
 ·rw [Nat.zero_add]
  have e:=h.blk
  simp [World.cell?,e,hi]
 ·simp only [Value.slice.injEq,Option.some.injEq,Addr.mk.injEq] at e
  obtain ⟨⟨rfl,_⟩,_⟩:=e
  exact ⟨_,_,h.blk⟩
def ak (id:Int):List Int:=Ky.mk 4 id 0
def pv (x y:Int):List Int:=Rc.thr (Rc.pnx (fun o=>([x,y]:List Int).getD o 0)) [(0,0),(0,1)] []
def coinB (l:List Int):Int:=Rc.outX (Rc.stAccount l) 0
def seqB (l:List Int):Int:=Rc.outX (Rc.stAccount l) 1
def coin (E:Ents) (id:Int):Int:=coinB ((Kv.look E (ak id)).getD [])
def seqn (E:Ents) (id:Int):Int:=seqB ((Kv.look E (ak id)).getD [])
def layE (E:Ents) (id x y:Int):Ents:=if x=0/\y=0 then rem E (ak id) else put E (ak id) (pv x y)
abbrev isA (id:Int):Prop:=(1<=id/\id<=4)\/16<=id
abbrev holdsP (x k:Int):Prop:=x<=1000000000000000000/\k<=1000000000000000000 - x
theorem ak_len (id:Int):0 < (ak id).length/\(ak id).length<=18:=by
 refine ⟨?_,Ky.mk_len _ _ _⟩
 unfold ak
 rw [Ky.mk_eq (k:=4) (n:=9) (m0:=97) (m1:=0) rfl]
 simp
theorem pv_len (x y:Int):(pv x y).length<=600:=by have:=Rc.pnx_len (fun o=>([x,y]:List Int).getD o 0) [(0,0),(0,1)] []; simpa [pv] using this
theorem pv_oct (x y:Int):Oct (pv x y):=Rc.thr_oct _ _ _ (fun _ h=>by simp at h)
theorem set_ok (id x y:Int):setE (ak id) (pv x y)=0:=by
 have h1:=ak_len id
 have h2:=pv_len x y
 unfold setE
 rw [if_neg (by omega),if_neg (by omega)]
theorem pv_back {x y:Int} (hx:0<=x/\x < 18446744073709551616) (hy:0<=y/\y < 18446744073709551616):coinB (pv x y)=x/\seqB (pv x y)=y:=by
 obtain ⟨ys,h1,h2⟩:=Rc.thr_back (fun o=>([x,y]:List Int).getD o 0) [(0,0),(0,1)] [] (fun _=>0) (by decide) (by
  intro p hp
  simp only [List.mem_cons,List.not_mem_nil,or_false] at hp
  rcases hp with rfl | rfl
  ·exact hx
  ·exact hy)
 rw [List.append_nil] at h1
 have e:Rc.stAccount (pv x y)=(0,[],ys):=h1
 unfold coinB seqB
 rw [e]
 have f:Rc.outX (0,[],ys)=ys:=rfl
 rw [f]
 have a:=h2.1 (0,0) (by simp)
 have b:=h2.1 (0,1) (by simp)
 exact ⟨a,b⟩
end Bk
end Go.Proofs.YtfpclhjmfpfhiaaGreat
namespace Go.Proofs.YtfpclhjmfpfhiaaGreat
namespace Bk
open Go.RowKit Go.Lib Pg Lim Gl Kv
attribute [local go_sem] Oper.semAt_some
set_option maxRecDepth 100000
set_option linter.unusedSimpArgs false
set_option linter.unusedVariables false
set_option maxHeartbeats 2000000
theorem ake (id:Int):(if Ky.mkE 4 id 0 then [] else Ky.mk 4 id 0)=ak id:=by
 have e:Ky.mkE 4 id 0=false:=by
  unfold Ky.mkE
  rw [show (Ky.frm 4).1=9 from rfl]
  simp
 rw [e]
 rfl
theorem key_any {w:World} {id:Int} (hid:0<=id/\id < 18446744073709551616):Calls Tryz.prog 33 #[.int .u64 id] w fun e w'=>∃ v,e=.returned v/\ByU w' v (ak id)/\Below w.heap.size w w':=by
 have BB:=Below.refl w.heap.size w
 refine gc_enter (n:=12) Tryz.func33 rfl (by kernel_rfl) (by kernel_rfl) ?_
 refine gc_seq ?_
 refine gc_reg ?_
 refine t 2 (.slice none 0 0) ?_
 refine gl_nil ?_
 refine ge_then ?_
 refine gc_seq ?_
 refine gc_reg ?_
 refine t 6 (.int .u64 id) ?_
 refine t 7 (.agg #[.int .i64 4,.int .u64 id,.int .u64 0]) ?_
 refine tc 8 56 #[.agg #[.int .i64 4,.int .u64 id,.int .u64 0]] (Ky.make_any hid.1 hid.2) ?_
 rintro _ v1 ⟨kv0,rfl,U0,B⟩
 refine ⟨_,rfl,?_⟩
 replace BB:=joinB BB B
 clear B
 refine t 5 (.tuple #[kv0,.int .i64 (if Ky.mkE 4 id 0 then 70 else 0)]) ?_
 refine t 9 (kv0) ?_
 refine t 10 (.int .i64 (if Ky.mkE 4 id 0 then 70 else 0)) ?_
 refine t 3 (kv0) ?_
 refine t 4 (.int .i64 (if Ky.mkE 4 id 0 then 70 else 0)) ?_
 refine gl_nil ?_
 refine ge_then ?_
 refine gc_seq ?_
 refine gc_reg ?_
 refine t 11 (kv0) ?_
 refine t 2 (kv0) ?_
 refine gl_nil ?_
 refine ge_then ?_
 refine gc_fr [(2,kv0)] (by kernel_rfl) ?_
 refine gc_ret ?_
 refine ge_ret (kv0) (rs1 2 (by kernel_rfl) (by kernel_rfl)) ?_
 exact ⟨_,rfl,by rw [ake id] at U0; exact ByU.of U0,BB⟩
theorem acct_any {w:World} {v:Value} {l:List Int} (h:ByU w v l) (hl:l.length<=1000000000):Calls Tryz.prog 34 #[v] w fun e w'=>e=.returned (.tuple #[.agg #[.int .u64 (coinB l),.int .u64 (seqB l)],.int .i64 (Rc.outR (Rc.stAccount l))])/\Below w.heap.size w w':=by
 obtain ⟨b,ao,c,rfl,h2⟩:=bya h.byt
 exact Rc.oAccount h2 hl
theorem put_acct {w:World} {x y:Int}:Calls Tryz.prog 50 #[.agg #[.int .u64 x,.int .u64 y]] w fun e w'=>∃ v,e=.returned v/\ByU w' v (pv x y)/\Below w.heap.size w w':=by
 refine Rc.PutAccount_any.mono ?_
 rintro e w' ⟨b,n,rfl,hn,X,hb,B⟩
 exact ⟨_,rfl,byu_box X (pv_oct x y) hn (Nat.le_trans (pv_len x y) (by decide)),B⟩
theorem aset {B:Nat} {w:World} {K:Nat->Prop} {g:Nat} {E:Ents} {W:List Ents} {n N:Nat} {kv vv:Value} {id x y:Int} (h:Sx B w K g E W n N) (hk:ByU w kv (ak id)) (hv:ByU w vv (pv x y)) (hn:n<=4000000000000000000) (hN:N + 2<=100000000) :
  Calls Tryz.prog 49 #[pg g,kv,vv] w (SxE B w K g (put E (ak id) (pv x y)) W (n + 1) (N + 2) (.int .i64 0)):=by
 have u:=xset h hk hv hn hN
 rw [set_ok,if_pos rfl] at u
 exact u
theorem Sx.getlen {B:Nat} {w:World} {K:Nat->Prop} {g:Nat} {E:Ents} {W:List Ents} {n N:Nat} (h:Sx B w K g E W n N) (k:List Int):((Kv.look E k).getD []).length<=1000000000:=by
 cases e:Kv.look E k with
 | none=>simp
 | some v=>exact (h.sa.small _ (Kv.look_mem e)).2
theorem rd8_rng {l:List Int} {err:Int} (ho:Octets l):0<=rdV 0 (pFix 8 l) err/\rdV 0 (pFix 8 l) err < 18446744073709551616:=by
 unfold rdV pFix
 split
 ·split
  ·exact ⟨Int.le_refl _,by decide⟩
  ·rename_i hh
   split at hh
   ·cases hh
    have:=bval_bound (l:=l.take 8) (fun x hx=>ho x (List.mem_of_mem_take hx))
    rw [List.length_take,Nat.min_eq_left (by assumption)] at this
    exact this
   ·cases hh
 ·exact ⟨Int.le_refl _,by decide⟩
theorem coinB_rng {l:List Int} (ho:Oct l):(0<=coinB l/\coinB l < 18446744073709551616)/\(0<=seqB l/\seqB l < 18446744073709551616):=by
 have h1:Octets (rdL (pFix 8 l) 0 l):=by
  unfold rdL
  split
  ·split
   ·exact ho
   ·exact fun x hx=>ho x (List.mem_of_mem_drop hx)
  ·exact ho
 have e:Rc.stAccount l=Rc.rnx 0 1 (Rc.rnx 0 0 (0,l,fun _=>0)):=rfl
 unfold coinB seqB Rc.outX
 rw [e]
 split
 ·exact ⟨rd8_rng (err:=0) ho,rd8_rng h1⟩
 ·exact ⟨⟨Int.le_refl _,by decide⟩,Int.le_refl _,by decide⟩
theorem SA.octv {w:World} {K D:Nat->Prop} {g n N:Nat} {E:Ents} {W:List Ents} (h:SA w K D g E W n N):∀ x∈E,Oct x.2:=by
 obtain ⟨F,V,m,Q,jv,T,oj,hX,rfl,hB⟩:=h.open
 obtain ⟨L,rfl,A,O,S,k,r⟩:=hX.map.ex
 intro x hx
 rw [abs_flat] at hx
 obtain ⟨e,he,rfl⟩:=List.mem_map.1 hx
 obtain ⟨es,h1,h2⟩:=List.mem_flatten.1 he
 obtain ⟨p,hp,rfl⟩:=List.mem_map.1 h1
 exact ((A.pages p hp).1.ents e h2).v.oct
theorem Sx.oct {B:Nat} {w:World} {K:Nat->Prop} {g:Nat} {E:Ents} {W:List Ents} {n N:Nat} (h:Sx B w K g E W n N) (k:List Int):Oct ((Kv.look E k).getD []):=by
 cases e:Kv.look E k with
 | none=>exact fun x hx=>by simp at hx
 | some v=>exact SA.octv h.sa _ (Kv.look_mem e)
theorem Sx.crng {B:Nat} {w:World} {K:Nat->Prop} {g:Nat} {E:Ents} {W:List Ents} {n N:Nat} (h:Sx B w K g E W n N) (id:Int):0<=coin E id/\coin E id < 18446744073709551616:=(coinB_rng (h.oct _)).1
theorem Sx.srng {B:Nat} {w:World} {K:Nat->Prop} {g:Nat} {E:Ents} {W:List Ents} {n N:Nat} (h:Sx B w K g E W n N) (id:Int):0<=seqn E id/\seqn E id < 18446744073709551616:=(coinB_rng (h.oct _)).2
theorem run_z {ρ:Operand->Value} {w:World} {o:Oper} {x y:Int} {b:Bool} (hb:decide (x=0/\y=0)=b) (ho:∃ u v,o.op=.binOp .eql 42 u v 42/\ρ u=.agg #[.int .u64 x,.int .u64 y]/\ρ v=.agg #[.int .u64 0,.int .u64 0]:=by exact ⟨_,_,rfl,by kernel_rfl,by kernel_rfl⟩):(execOp ρ o).run Tryz.prog w=.ok (.value (.bool b)) w:=by
 obtain ⟨u,v,h,h1,h2⟩:=ho
 subst hb
 simp only [execOp,h,h1,h2]
 go_simp
 repeat' split
 all_goals simp_all
theorem isAcc_any {w:World} {id:Int} {b:Bool} (hid:0<=id/\id < 18446744073709551616) (hb:decide (isA id)=b):Calls Tryz.prog 25 #[.int .u64 id] w fun e w'=>e=.returned (.bool b)/\Below w.heap.size w w':=by
 have BB:=Below.refl w.heap.size w
 refine gc_enter (n:=13) Tryz.func25 rfl (by kernel_rfl) (by kernel_rfl) ?_
 refine gc_seq ?_
 refine gc_reg ?_
 refine t 2 (.bool false) ?_
 refine gl_nil ?_
 refine ge_then ?_
 refine gc_seq ?_
 refine gc_reg ?_
 refine t 3 (.int .u64 id) ?_
 by_cases c1:(1:Int)<=id
 ·refine tq 4 (.bool (decide ((1:Int)<=id))) (.bool true) (congrArg Value.bool (decide_eq_true c1)) ?_
  refine t 5 (.bool true) ?_
  refine t 6 (.int .u64 id) ?_
  by_cases c2:(id:Int)<=4
  ·refine tq 7 (.bool (decide ((id:Int)<=4))) (.bool true) (congrArg Value.bool (decide_eq_true c2)) ?_
   refine t 8 (.bool true) ?_
   refine t 9 (.bool true) ?_
   refine tn 10 ?_
   refine tn 11 ?_
   refine t 12 (.bool true) ?_
   refine t 2 (.bool true) ?_
   refine gl_nil ?_
   refine ge_then ?_
   refine gc_fr [(2,.bool true)] (by kernel_rfl) ?_
   refine gc_ret ?_
   refine ge_ret (.bool true) (rs1 2 (by kernel_rfl) (by kernel_rfl)) ?_
   refine ⟨?_,BB⟩
   rw [<- hb]
   rw [decide_eq_true (by unfold isA; omega)]
  ·refine tq 7 (.bool (decide ((id:Int)<=4))) (.bool false) (congrArg Value.bool (decide_eq_false c2)) ?_
   refine t 8 (.bool false) ?_
   refine t 9 (.bool false) ?_
   refine t 10 (.int .u64 id) ?_
   by_cases c3:(16:Int)<=id
   ·refine tq 11 (.bool (decide ((16:Int)<=id))) (.bool true) (congrArg Value.bool (decide_eq_true c3)) ?_
    refine t 12 (.bool true) ?_
    refine t 2 (.bool true) ?_
    refine gl_nil ?_
    refine ge_then ?_
    refine gc_fr [(2,.bool true)] (by kernel_rfl) ?_
    refine gc_ret ?_
    refine ge_ret (.bool true) (rs1 2 (by kernel_rfl) (by kernel_rfl)) ?_
    refine ⟨?_,BB⟩
    rw [<- hb]
    rw [decide_eq_true (by unfold isA; omega)]
   ·refine tq 11 (.bool (decide ((16:Int)<=id))) (.bool false) (congrArg Value.bool (decide_eq_false c3)) ?_
    refine t 12 (.bool false) ?_
    refine t 2 (.bool false) ?_
    refine gl_nil ?_
    refine ge_then ?_
    refine gc_fr [(2,.bool false)] (by kernel_rfl) ?_
    refine gc_ret ?_
    refine ge_ret (.bool false) (rs1 2 (by kernel_rfl) (by kernel_rfl)) ?_
    refine ⟨?_,BB⟩
    rw [<- hb]
    rw [decide_eq_false (by unfold isA; omega)]
 ·refine tq 4 (.bool (decide ((1:Int)<=id))) (.bool false) (congrArg Value.bool (decide_eq_false c1)) ?_
  refine t 5 (.bool false) ?_
  refine tn 6 ?_
  refine tn 7 ?_
  refine t 8 (.bool false) ?_
  refine t 9 (.bool false) ?_
  refine t 10 (.int .u64 id) ?_
  by_cases c4:(16:Int)<=id
  ·refine tq 11 (.bool (decide ((16:Int)<=id))) (.bool true) (congrArg Value.bool (decide_eq_true c4)) ?_
   refine t 12 (.bool true) ?_
   refine t 2 (.bool true) ?_
   refine gl_nil ?_
   refine ge_then ?_
   refine gc_fr [(2,.bool true)] (by kernel_rfl) ?_
   refine gc_ret ?_
   refine ge_ret (.bool true) (rs1 2 (by kernel_rfl) (by kernel_rfl)) ?_
   refine ⟨?_,BB⟩
   rw [<- hb]
   rw [decide_eq_true (by unfold isA; omega)]
  ·refine tq 11 (.bool (decide ((16:Int)<=id))) (.bool false) (congrArg Value.bool (decide_eq_false c4)) ?_
   refine t 12 (.bool false) ?_
   refine t 2 (.bool false) ?_
   refine gl_nil ?_
   refine ge_then ?_
   refine gc_fr [(2,.bool false)] (by kernel_rfl) ?_
   refine gc_ret ?_
   refine ge_ret (.bool false) (rs1 2 (by kernel_rfl) (by kernel_rfl)) ?_
   refine ⟨?_,BB⟩
   rw [<- hb]
   rw [decide_eq_false (by unfold isA; omega)]
theorem holds_any {w:World} {x y k:Int} {b:Bool} (hx:0<=x/\x < 18446744073709551616) (hk:0<=k/\k < 18446744073709551616) (hb:decide (holdsP x k)=b):Calls Tryz.prog 26 #[.agg #[.int .u64 x,.int .u64 y],.int .u64 k] w fun e w'=>e=.returned (.bool b)/\Below w.heap.size w w':=by
 have BB:=Below.refl w.heap.size w
 refine gc_enter (n:=15) Tryz.func26 rfl (by kernel_rfl) (by kernel_rfl) ?_
 refine gc_seq ?_
 refine gc_reg ?_
 refine ta 2 [.int .u64 x,.int .u64 y] 42 (pg) ?_
 intro v1 g2 Xg2 hg2 B
 replace BB:=joinB BB B
 clear B
 refine t 4 (.bool false) ?_
 refine gl_nil ?_
 refine ge_then ?_
 refine gc_seq ?_
 refine gc_reg ?_
 refine t 5 (pg g2) ?_
 refine tl 6 (.int .u64 x) Xg2 0 ?_
 by_cases c3:(x:Int)<=1000000000000000000
 ·refine tq 7 (.bool (decide ((x:Int)<=1000000000000000000))) (.bool true) (congrArg Value.bool (decide_eq_true c3)) ?_
  refine t 8 (.bool true) ?_
  refine t 9 (.int .u64 k) ?_
  refine t 10 (pg g2) ?_
  refine tl 11 (.int .u64 x) Xg2 0 ?_
  refine tq 12 (.int .u64 (IntKind.u64.wrap (1000000000000000000 - x))) (.int .u64 (1000000000000000000 - x)) (wu (by omega)) ?_
  by_cases c4:(k:Int)<=1000000000000000000 - x
  ·refine tq 13 (.bool (decide ((k:Int)<=1000000000000000000 - x))) (.bool true) (congrArg Value.bool (decide_eq_true c4)) ?_
   refine t 14 (.bool true) ?_
   refine t 4 (.bool true) ?_
   refine gl_nil ?_
   refine ge_then ?_
   refine gc_fr [(4,.bool true)] (by kernel_rfl) ?_
   refine gc_ret ?_
   refine ge_ret (.bool true) (rs1 4 (by kernel_rfl) (by kernel_rfl)) ?_
   refine ⟨?_,BB⟩
   rw [<- hb]
   rw [decide_eq_true (by unfold holdsP; omega)]
  ·refine tq 13 (.bool (decide ((k:Int)<=1000000000000000000 - x))) (.bool false) (congrArg Value.bool (decide_eq_false c4)) ?_
   refine t 14 (.bool false) ?_
   refine t 4 (.bool false) ?_
   refine gl_nil ?_
   refine ge_then ?_
   refine gc_fr [(4,.bool false)] (by kernel_rfl) ?_
   refine gc_ret ?_
   refine ge_ret (.bool false) (rs1 4 (by kernel_rfl) (by kernel_rfl)) ?_
   refine ⟨?_,BB⟩
   rw [<- hb]
   rw [decide_eq_false (by unfold holdsP; omega)]
 ·refine tq 7 (.bool (decide ((x:Int)<=1000000000000000000))) (.bool false) (congrArg Value.bool (decide_eq_false c3)) ?_
  refine t 8 (.bool false) ?_
  refine tn 9 ?_
  refine tn 10 ?_
  refine tn 11 ?_
  refine tn 12 ?_
  refine tn 13 ?_
  refine t 14 (.bool false) ?_
  refine t 4 (.bool false) ?_
  refine gl_nil ?_
  refine ge_then ?_
  refine gc_fr [(4,.bool false)] (by kernel_rfl) ?_
  refine gc_ret ?_
  refine ge_ret (.bool false) (rs1 4 (by kernel_rfl) (by kernel_rfl)) ?_
  refine ⟨?_,BB⟩
  rw [<- hb]
  rw [decide_eq_false (by unfold holdsP; omega)]
theorem get_any {B:Nat} {w:World} {K:Nat->Prop} {g:Nat} {E:Ents} {W:List Ents} {n N:Nat} {id:Int} (h:Sx B w K g E W n N) (hid:0<=id/\id < 18446744073709551616) (hn:n + 5<=4000000000000000000) (hN:N + 5<=100000000):Calls Tryz.prog 14 #[pg g,.int .u64 id] w (SxE B w K g E W (n + 1) N (.agg #[.int .u64 (coin E id),.int .u64 (seqn E id)])):=by
 have A:=h.at
 refine gc_enter (n:=22) Tryz.func14 rfl (by kernel_rfl) (by kernel_rfl) ?_
 refine gc_seq ?_
 refine gc_reg ?_
 refine ta 4 [.int .u64 0,.int .u64 0] 42 (pg) ?_
 intro v1 g2 Xg2 hg2 B
 have zg2:=Nat.le_trans A.size hg2
 have nXg2:=A.new hg2
 replace A:=A.keep B
 clear B
 refine gl_nil ?_
 refine ge_then ?_
 refine gc_seq ?_
 refine gc_reg ?_
 refine t 10 (pg g) ?_
 refine t 11 (.int .u64 id) ?_
 refine tc 12 33 #[.int .u64 id] (key_any hid) ?_
 rintro _ v5 ⟨kv4,rfl,U3,B⟩
 refine ⟨_,rfl,?_⟩
 replace A:=A.keep B
 replace Xg2:=Xg2.keep B
 clear B
 refine tc 13 32 #[pg g,kv4] (xget A.sx U3 (by omega) (by omega)) ?_
 rintro _ v8 ⟨gv6,rfl,U7,S,hC⟩
 refine ⟨_,rfl,?_⟩
 replace Xg2:=Xg2.chg hC nXg2
 replace U3:=A.byu U3 hC
 replace A:=A.op S (fun _ h=>.inl h) hC
 clear S hC
 clear U3
 refine t 9 (.tuple #[gv6,.bool (Kv.look E (ak id)).isSome]) ?_
 refine t 14 (gv6) ?_
 refine t 15 (.bool (Kv.look E (ak id)).isSome) ?_
 refine t 5 (gv6) ?_
 refine t 6 (.bool (Kv.look E (ak id)).isSome) ?_
 refine gl_nil ?_
 refine ge_then ?_
 refine gc_fr [(4,pg g2),(5,gv6)] (by kernel_rfl) ?_
 refine gc_seq ?_
 refine gc_reg ?_
 refine t 17 (gv6) ?_
 refine tc 18 34 #[gv6] (acct_any U7 (A.sx.getlen _)) ?_
 rintro _ v9 ⟨rfl,B⟩
 refine ⟨_,rfl,?_⟩
 replace A:=A.keep B
 replace Xg2:=Xg2.keep B
 replace U7:=byu_keep U7 B
 clear B
 clear U7
 refine t 16 (.tuple #[.agg #[.int .u64 (coinB ((Kv.look E (ak id)).getD [])),.int .u64 (seqB ((Kv.look E (ak id)).getD []))],.int .i64 (Rc.outR (Rc.stAccount ((Kv.look E (ak id)).getD [])))]) ?_
 refine t 19 (.agg #[.int .u64 (coinB ((Kv.look E (ak id)).getD [])),.int .u64 (seqB ((Kv.look E (ak id)).getD []))]) ?_
 refine t 20 (.int .i64 (Rc.outR (Rc.stAccount ((Kv.look E (ak id)).getD [])))) ?_
 have lXg2:=Xg2.lt
 refine ta 7 [.int .u64 0,.int .u64 0] 42 (pg) ?_
 intro v10 g11 Xg11 hg11 B
 have zg11:=Nat.le_trans A.size hg11
 have nXg11:=A.new hg11
 replace A:=A.keep B
 replace Xg2:=Xg2.keep B
 clear B
 refine ts Xg11 0 (.agg #[.int .u64 (coinB ((Kv.look E (ak id)).getD [])),.int .u64 (seqB ((Kv.look E (ak id)).getD []))]) [.int .u64 (coinB ((Kv.look E (ak id)).getD [])),.int .u64 (seqB ((Kv.look E (ak id)).getD []))] [.int .u64 (coinB ((Kv.look E (ak id)).getD [])),.int .u64 (seqB ((Kv.look E (ak id)).getD []))] ?_
 intro v12 Y C
 replace A:=At.cell A Xg11 C zg11 nXg11 (by decide)
 replace Xg2:=Xg2.chg C (show g2≠g11 by omega)
 clear C Xg11
 have Xg11:=Y
 clear Y
 refine t 8 (.int .i64 (Rc.outR (Rc.stAccount ((Kv.look E (ak id)).getD [])))) ?_
 refine gl_nil ?_
 refine ge_then ?_
 refine gc_seq ?_
 refine gc_reg ?_
 refine tlr 21 [.int .u64 (coinB ((Kv.look E (ak id)).getD [])),.int .u64 (seqB ((Kv.look E (ak id)).getD []))] Xg11 0 ?_
 refine ts Xg2 0 (.agg #[.int .u64 (coinB ((Kv.look E (ak id)).getD [])),.int .u64 (seqB ((Kv.look E (ak id)).getD []))]) [.int .u64 (coinB ((Kv.look E (ak id)).getD [])),.int .u64 (seqB ((Kv.look E (ak id)).getD []))] [.int .u64 (coinB ((Kv.look E (ak id)).getD [])),.int .u64 (seqB ((Kv.look E (ak id)).getD []))] ?_
 intro v13 Y C
 replace A:=At.cell A Xg2 C zg2 nXg2 (by decide)
 replace Xg11:=Xg11.chg C (show g11≠g2 by omega)
 clear C Xg2
 have Xg2:=Y
 clear Y
 refine gl_nil ?_
 refine ge_then ?_
 refine gc_ret ?_
 refine ge_ret (.agg #[.int .u64 (coinB ((Kv.look E (ak id)).getD [])),.int .u64 (seqB ((Kv.look E (ak id)).getD []))]) (rsc 4 (T:=42) (by kernel_rfl) (by kernel_rfl) (lr Xg2 0)) ?_
 exact ⟨rfl,_,A.sx,A.km,A.cc⟩
theorem lay_any {B:Nat} {w:World} {K:Nat->Prop} {g:Nat} {E:Ents} {W:List Ents} {n N:Nat} {id x y:Int} (h:Sx B w K g E W n N) (hid:0<=id/\id < 18446744073709551616) (hn:n + 5<=4000000000000000000) (hN:N + 5<=100000000):Calls Tryz.prog 27 #[pg g,.int .u64 id,.agg #[.int .u64 x,.int .u64 y]] w (SxE B w K g (layE E id x y) W (n + 1) (N + 2) (.tuple #[])):=by
 have A:=h.at
 refine gc_enter (n:=19) Tryz.func27 rfl (by kernel_rfl) (by kernel_rfl) ?_
 refine gc_seq ?_
 refine gc_reg ?_
 refine ta 5 [.int .u64 x,.int .u64 y] 42 (pg) ?_
 intro v1 g2 Xg2 hg2 B
 have zg2:=Nat.le_trans A.size hg2
 have nXg2:=A.new hg2
 replace A:=A.keep B
 clear B
 refine gl_nil ?_
 refine ge_then ?_
 refine gc_seq ?_
 refine gc_seq ?_
 refine gc_reg ?_
 refine tlr 6 [.int .u64 x,.int .u64 y] Xg2 0 ?_
 refine t 7 (.agg #[.int .u64 0,.int .u64 0]) ?_
 by_cases c3:x=0/\y=0
 ·refine tr 8 (.bool true) (run_z (decide_eq_true c3)) ?_
  refine gl_nil ?_
  refine ge_then ?_
  refine gc_yes ?_
  refine gc_seq ?_
  refine gc_reg ?_
  refine t 9 (pg g) ?_
  refine t 10 (.int .u64 id) ?_
  refine tc 11 33 #[.int .u64 id] (key_any hid) ?_
  rintro _ v6 ⟨kv5,rfl,U4,B⟩
  refine ⟨_,rfl,?_⟩
  replace A:=A.keep B
  replace Xg2:=Xg2.keep B
  clear B
  refine tc 12 48 #[pg g,kv5] (xdel A.sx U4 (by have:=ak_len id; omega) (by omega) (by omega)) ?_
  rintro _ v8 ⟨rfl,K7,S,hK,hC⟩
  refine ⟨_,rfl,?_⟩
  have mXg2:=not_op Xg2 nXg2 hK
  replace Xg2:=Xg2.chg hC nXg2
  replace nXg2:=mXg2
  clear mXg2
  replace U4:=A.byu U4 hC
  replace A:=A.op S hK hC
  clear S hK hC
  clear U4
  refine gl_nil ?_
  refine ge_then ?_
  refine gc_ret ?_
  refine ge_tr ?_
  refine ge_ret (.tuple #[]) (rs0 (by kernel_rfl)) ?_
  rw [show layE E id x y=_ from if_pos c3]
  exact ⟨rfl,_,A.sx,A.km,A.cc⟩
 ·refine tr 8 (.bool false) (run_z (decide_eq_false c3)) ?_
  refine gl_nil ?_
  refine ge_then ?_
  refine gc_no ?_
  refine gc_skip ?_
  refine ge_then ?_
  replace A:=A.drew
  replace Xg2:=Xg2.drew
  refine gc_draw (fun w'=>Blk w' g2 [.int .u64 x,.int .u64 y] 42) (fun _=>false) Xg2 ?_
  refine z 0 13 (pg g) ?_
  refine z 1 14 (.int .u64 id) ?_
  refine zlr 3 16 [.int .u64 x,.int .u64 y] (fun _ h=>h) 0 ?_
  refine zc 2 15 33 #[.int .u64 id] (key_any hid) ?_
  rintro _ v11 ⟨kv10,rfl,U9,B⟩
  replace A:=A.keep B
  replace Xg2:=Xg2.keep B
  clear B
  refine ⟨_,rfl,Xg2,?_⟩
  refine zc 4 17 50 #[.agg #[.int .u64 x,.int .u64 y]] (put_acct) ?_
  rintro _ v14 ⟨pv13,rfl,U12,B⟩
  replace A:=A.keep B
  replace Xg2:=Xg2.keep B
  replace U9:=byu_keep U9 B
  clear B
  refine ⟨_,rfl,Xg2,?_⟩
  refine zc 5 18 49 #[pg g,kv10,pv13] (aset A.sx U9 U12 (by omega) (by omega)) ?_
  rintro _ v16 ⟨rfl,K15,S,hK,hC⟩
  have mXg2:=not_op Xg2 nXg2 hK
  replace Xg2:=Xg2.chg hC nXg2
  replace nXg2:=mXg2
  clear mXg2
  replace U9:=A.byu U9 hC
  replace U12:=A.byu U12 hC
  replace A:=A.op S hK hC
  clear S hK hC
  clear U9
  clear U12
  refine ⟨_,rfl,Xg2,?_⟩
  refine gz_done ?_
  refine ge_end (.tuple #[]) (rs0 (by kernel_rfl)) ?_
  rw [show layE E id x y=_ from if_neg c3]
  exact ⟨rfl,_,A.sx,A.km,A.cc⟩
def mintR (E:Ents) (id k:Int):Int:=if ¬ isA id then 92 else if ¬ holdsP (coin E id) k then 91 else 0
def mintE (E:Ents) (id k:Int):Ents:=if mintR E id k=0 then layE E id (coin E id + k) (seqn E id) else E
def moveR (E:Ents) (a b k:Int):Int:=if ¬ isA a\/¬ isA b then 92 else if coin E a < k then 90 else if a=b then 0 else if ¬ holdsP (coin E b) k then 91 else 0
def moveE (E:Ents) (a b k:Int):Ents:=if moveR E a b k=0/\a≠b then layE (layE E a (coin E a - k) (seqn E a)) b (coin E b + k) (seqn E b) else E
def bumpR (id:Int):Int:=if ¬ isA id then 92 else 0
def bumpE (E:Ents) (id:Int):Ents:=if isA id then layE E id (coin E id) ((seqn E id + 1) % 18446744073709551616) else E
theorem mint_any {B:Nat} {w:World} {K:Nat->Prop} {g:Nat} {E:Ents} {W:List Ents} {n N:Nat} {id k:Int} (h:Sx B w K g E W n N) (hid:0<=id/\id < 18446744073709551616) (hk:0<=k/\k < 18446744073709551616) (hn:n + 10<=4000000000000000000) (hN:N + 10<=100000000):Calls Tryz.prog 8 #[pg g,.int .u64 id,.int .u64 k] w (SxF B w K g (mintE E id k) W n N (.int .i64 (mintR E id k))):=by
 have A:=h.at
 refine gc_enter (n:=27) Tryz.func8 rfl (by kernel_rfl) (by kernel_rfl) ?_
 refine gc_seq ?_
 refine gc_reg ?_
 refine t 6 (.int .i64 0) ?_
 refine gl_nil ?_
 refine ge_then ?_
 refine gc_seq ?_
 refine gc_seq ?_
 refine gc_reg ?_
 refine t 8 (.int .u64 id) ?_
 by_cases c1:isA id
 ·refine tc 9 25 #[.int .u64 id] (isAcc_any hid (decide_eq_true c1)) ?_
  rintro _ v2 ⟨rfl,B⟩
  refine ⟨_,rfl,?_⟩
  replace A:=A.keep B
  clear B
  refine t 10 (.bool false) ?_
  refine gl_nil ?_
  refine ge_then ?_
  refine gc_no ?_
  refine gc_skip ?_
  refine ge_then ?_
  refine gc_seq ?_
  refine gc_reg ?_
  refine t 11 (pg g) ?_
  refine t 12 (.int .u64 id) ?_
  refine tc 13 14 #[pg g,.int .u64 id] (get_any A.sx hid (by omega) (by omega)) ?_
  rintro _ v4 ⟨rfl,K3,S,hK,hC⟩
  refine ⟨_,rfl,?_⟩
  replace A:=A.op S hK hC
  clear S hK hC
  refine ta 7 [.int .u64 0,.int .u64 0] 42 (pg) ?_
  intro v5 g6 Xg6 hg6 B
  have zg6:=Nat.le_trans A.size hg6
  have nXg6:=A.new hg6
  replace A:=A.keep B
  clear B
  refine ts Xg6 0 (.agg #[.int .u64 (coin E id),.int .u64 (seqn E id)]) [.int .u64 (coin E id),.int .u64 (seqn E id)] [.int .u64 (coin E id),.int .u64 (seqn E id)] ?_
  intro v7 Y C
  replace A:=At.cell A Xg6 C zg6 nXg6 (by decide)
  clear C Xg6
  have Xg6:=Y
  clear Y
  refine gl_nil ?_
  refine ge_then ?_
  refine gc_seq ?_
  refine gc_seq ?_
  refine gc_reg ?_
  refine tlr 14 [.int .u64 (coin E id),.int .u64 (seqn E id)] Xg6 0 ?_
  refine t 15 (.int .u64 k) ?_
  by_cases c8:holdsP (coin E id) k
  ·refine tc 16 26 #[.agg #[.int .u64 (coin E id),.int .u64 (seqn E id)],.int .u64 k] (holds_any (h.crng _) hk (decide_eq_true c8)) ?_
   rintro _ v9 ⟨rfl,B⟩
   refine ⟨_,rfl,?_⟩
   replace A:=A.keep B
   replace Xg6:=Xg6.keep B
   clear B
   refine t 17 (.bool false) ?_
   refine gl_nil ?_
   refine ge_then ?_
   refine gc_fr [(0,pg g),(1,.int .u64 id),(2,.int .u64 k),(6,.int .i64 0),(7,pg g6),(17,.bool false)] (by kernel_rfl) ?_
   refine gc_no ?_
   refine gc_skip ?_
   refine ge_then ?_
   refine gc_seq ?_
   refine gc_reg ?_
   refine t 18 (pg g6) ?_
   refine tl 19 (.int .u64 (coin E id)) Xg6 0 ?_
   refine t 20 (.int .u64 k) ?_
   refine tq 21 (.int .u64 (IntKind.u64.wrap ((coin E id) + k))) (.int .u64 ((coin E id) + k)) (wu (by have:=h.crng id; have q:=c8; unfold holdsP at q; omega)) ?_
   refine t 22 (pg g6) ?_
   refine ts Xg6 0 (.int .u64 ((coin E id) + k)) [.int .u64 ((coin E id) + k)] [.int .u64 ((coin E id) + k),.int .u64 (seqn E id)] ?_
   intro v10 Y C
   replace A:=At.cell A Xg6 C zg6 nXg6 (by decide)
   clear C Xg6
   have Xg6:=Y
   clear Y
   refine gl_nil ?_
   refine ge_then ?_
   refine gc_seq ?_
   refine gc_reg ?_
   refine t 23 (pg g) ?_
   refine t 24 (.int .u64 id) ?_
   refine tlr 25 [.int .u64 ((coin E id) + k),.int .u64 (seqn E id)] Xg6 0 ?_
   refine tc 26 27 #[pg g,.int .u64 id,.agg #[.int .u64 ((coin E id) + k),.int .u64 (seqn E id)]] (lay_any A.sx hid (by omega) (by omega)) ?_
   rintro _ v12 ⟨rfl,K11,S,hK,hC⟩
   refine ⟨_,rfl,?_⟩
   have mXg6:=not_op Xg6 nXg6 hK
   replace Xg6:=Xg6.chg hC nXg6
   replace nXg6:=mXg6
   clear mXg6
   replace A:=A.op S hK hC
   clear S hK hC
   refine gl_nil ?_
   refine ge_then ?_
   refine gc_seq ?_
   refine gc_reg ?_
   refine t 6 (.int .i64 0) ?_
   refine gl_nil ?_
   refine ge_then ?_
   refine gc_ret ?_
   refine ge_ret (.int .i64 0) (rs1 6 (by kernel_rfl) (by kernel_rfl)) ?_
   have e1:mintR E id k=0:=by first | (simp [mintR,c1,c8]; done) | (subst_vars; simp_all [mintR])
   have e2:mintE E id k=layE E id ((coin E id) + k) (seqn E id):=by simp [mintE,e1,c1,c8]
   rw [e1,e2]
   exact ⟨rfl,_,_,_,A.sx,by omega,by omega,A.km,A.cc⟩
  ·refine tc 16 26 #[.agg #[.int .u64 (coin E id),.int .u64 (seqn E id)],.int .u64 k] (holds_any (h.crng _) hk (decide_eq_false c8)) ?_
   rintro _ v13 ⟨rfl,B⟩
   refine ⟨_,rfl,?_⟩
   replace A:=A.keep B
   replace Xg6:=Xg6.keep B
   clear B
   refine t 17 (.bool true) ?_
   refine gl_nil ?_
   refine ge_then ?_
   refine gc_fr [(0,pg g),(1,.int .u64 id),(2,.int .u64 k),(6,.int .i64 0),(7,pg g6),(17,.bool true)] (by kernel_rfl) ?_
   refine gc_yes ?_
   refine gc_seq ?_
   refine gc_reg ?_
   refine t 6 (.int .i64 91) ?_
   refine gl_nil ?_
   refine ge_then ?_
   refine gc_ret ?_
   refine ge_tr ?_
   refine ge_ret (.int .i64 91) (rs1 6 (by kernel_rfl) (by kernel_rfl)) ?_
   have e1:mintR E id k=91:=by first | (simp [mintR,c1,c8]; done) | (subst_vars; simp_all [mintR])
   have e2:mintE E id k=E:=by simp [mintE,e1,c1,c8]
   rw [e1,e2]
   exact ⟨rfl,_,_,_,A.sx,by omega,by omega,A.km,A.cc⟩
 ·refine tc 9 25 #[.int .u64 id] (isAcc_any hid (decide_eq_false c1)) ?_
  rintro _ v14 ⟨rfl,B⟩
  refine ⟨_,rfl,?_⟩
  replace A:=A.keep B
  clear B
  refine t 10 (.bool true) ?_
  refine gl_nil ?_
  refine ge_then ?_
  refine gc_yes ?_
  refine gc_seq ?_
  refine gc_reg ?_
  refine t 6 (.int .i64 92) ?_
  refine gl_nil ?_
  refine ge_then ?_
  refine gc_ret ?_
  refine ge_tr ?_
  refine ge_ret (.int .i64 92) (rs1 6 (by kernel_rfl) (by kernel_rfl)) ?_
  have e1:mintR E id k=92:=by first | (simp [mintR,c1]; done) | (subst_vars; simp_all [mintR])
  have e2:mintE E id k=E:=by simp [mintE,e1,c1]
  rw [e1,e2]
  exact ⟨rfl,_,_,_,A.sx,by omega,by omega,A.km,A.cc⟩
theorem move_any {B:Nat} {w:World} {K:Nat->Prop} {g:Nat} {E:Ents} {W:List Ents} {n N:Nat} {a b k:Int} (h:Sx B w K g E W n N) (ha:0<=a/\a < 18446744073709551616) (hb:0<=b/\b < 18446744073709551616) (hk:0<=k/\k < 18446744073709551616) (hn:n + 10<=4000000000000000000) (hN:N + 10<=100000000):Calls Tryz.prog 10 #[pg g,.int .u64 a,.int .u64 b,.int .u64 k] w (SxF B w K g (moveE E a b k) W n N (.int .i64 (moveR E a b k))):=by
 have A:=h.at
 refine gc_enter (n:=54) Tryz.func10 rfl (by kernel_rfl) (by kernel_rfl) ?_
 refine gc_seq ?_
 refine gc_reg ?_
 refine t 8 (.int .i64 0) ?_
 refine gl_nil ?_
 refine ge_then ?_
 refine gc_seq ?_
 refine gc_seq ?_
 refine gc_reg ?_
 refine t 11 (.int .u64 a) ?_
 by_cases c1:isA a
 ·refine tc 12 25 #[.int .u64 a] (isAcc_any ha (decide_eq_true c1)) ?_
  rintro _ v2 ⟨rfl,B⟩
  refine ⟨_,rfl,?_⟩
  replace A:=A.keep B
  clear B
  refine t 13 (.bool false) ?_
  refine t 14 (.bool false) ?_
  refine t 15 (.int .u64 b) ?_
  by_cases c3:isA b
  ·refine tc 16 25 #[.int .u64 b] (isAcc_any hb (decide_eq_true c3)) ?_
   rintro _ v4 ⟨rfl,B⟩
   refine ⟨_,rfl,?_⟩
   replace A:=A.keep B
   clear B
   refine t 17 (.bool false) ?_
   refine t 18 (.bool false) ?_
   refine gl_nil ?_
   refine ge_then ?_
   refine gc_fr [(0,pg g),(1,.int .u64 a),(2,.int .u64 b),(3,.int .u64 k),(8,.int .i64 0),(18,.bool false)] (by kernel_rfl) ?_
   refine gc_no ?_
   refine gc_skip ?_
   refine ge_then ?_
   refine gc_seq ?_
   refine gc_reg ?_
   refine t 19 (pg g) ?_
   refine t 20 (.int .u64 a) ?_
   refine tc 21 14 #[pg g,.int .u64 a] (get_any A.sx ha (by omega) (by omega)) ?_
   rintro _ v6 ⟨rfl,K5,S,hK,hC⟩
   refine ⟨_,rfl,?_⟩
   replace A:=A.op S hK hC
   clear S hK hC
   refine ta 9 [.int .u64 0,.int .u64 0] 42 (pg) ?_
   intro v7 g8 Xg8 hg8 B
   have zg8:=Nat.le_trans A.size hg8
   have nXg8:=A.new hg8
   replace A:=A.keep B
   clear B
   refine ts Xg8 0 (.agg #[.int .u64 (coin E a),.int .u64 (seqn E a)]) [.int .u64 (coin E a),.int .u64 (seqn E a)] [.int .u64 (coin E a),.int .u64 (seqn E a)] ?_
   intro v9 Y C
   replace A:=At.cell A Xg8 C zg8 nXg8 (by decide)
   clear C Xg8
   have Xg8:=Y
   clear Y
   refine gl_nil ?_
   refine ge_then ?_
   refine gc_seq ?_
   refine gc_seq ?_
   refine gc_reg ?_
   refine t 22 (pg g8) ?_
   refine tl 23 (.int .u64 (coin E a)) Xg8 0 ?_
   refine t 24 (.int .u64 k) ?_
   by_cases c10:(coin E a:Int) < k
   ·refine tq 25 (.bool (decide ((coin E a:Int) < k))) (.bool true) (congrArg Value.bool (decide_eq_true c10)) ?_
    refine gl_nil ?_
    refine ge_then ?_
    refine gc_yes ?_
    refine gc_seq ?_
    refine gc_reg ?_
    refine t 8 (.int .i64 90) ?_
    refine gl_nil ?_
    refine ge_then ?_
    refine gc_ret ?_
    refine ge_tr ?_
    refine ge_ret (.int .i64 90) (rs1 8 (by kernel_rfl) (by kernel_rfl)) ?_
    have e1:moveR E a b k=90:=by first | (simp [moveR,c1,c10,c3]; done) | (subst_vars; simp_all [moveR])
    have e2:moveE E a b k=E:=by simp [moveE,e1,c1,c10,c3]
    rw [e1,e2]
    exact ⟨rfl,_,_,_,A.sx,by omega,by omega,A.km,A.cc⟩
   ·refine tq 25 (.bool (decide ((coin E a:Int) < k))) (.bool false) (congrArg Value.bool (decide_eq_false c10)) ?_
    refine gl_nil ?_
    refine ge_then ?_
    refine gc_no ?_
    refine gc_skip ?_
    refine ge_then ?_
    refine gc_seq ?_
    refine gc_seq ?_
    refine gc_reg ?_
    refine t 26 (.int .u64 a) ?_
    refine t 27 (.int .u64 b) ?_
    by_cases c11:(a:Int)=b
    ·refine tq 28 (.bool ((a:Int) == b)) (.bool true) (congrArg Value.bool (beq_iff_eq.2 c11)) ?_
     refine gl_nil ?_
     refine ge_then ?_
     refine gc_yes ?_
     refine gc_seq ?_
     refine gc_reg ?_
     refine t 8 (.int .i64 0) ?_
     refine gl_nil ?_
     refine ge_then ?_
     refine gc_fr [(0,pg g),(1,.int .u64 a),(2,.int .u64 b),(3,.int .u64 k),(8,.int .i64 0),(9,pg g8)] (by kernel_rfl) ?_
     refine gc_ret ?_
     refine ge_tr ?_
     refine ge_ret (.int .i64 0) (rs1 8 (by kernel_rfl) (by kernel_rfl)) ?_
     have e1:moveR E a b k=0:=by first | (simp [moveR,c1,c10,c11,c3]; done) | (subst_vars; simp_all [moveR])
     have e2:moveE E a b k=E:=by simp [moveE,e1,c1,c10,c11,c3]
     rw [e1,e2]
     exact ⟨rfl,_,_,_,A.sx,by omega,by omega,A.km,A.cc⟩
    ·refine tq 28 (.bool ((a:Int) == b)) (.bool false) (congrArg Value.bool (beq_eq_false_iff_ne.2 c11)) ?_
     refine gl_nil ?_
     refine ge_then ?_
     refine gc_no ?_
     refine gc_skip ?_
     refine ge_then ?_
     refine gc_seq ?_
     refine gc_reg ?_
     refine t 29 (pg g) ?_
     refine t 30 (.int .u64 b) ?_
     refine tc 31 14 #[pg g,.int .u64 b] (get_any A.sx hb (by omega) (by omega)) ?_
     rintro _ v13 ⟨rfl,K12,S,hK,hC⟩
     refine ⟨_,rfl,?_⟩
     have mXg8:=not_op Xg8 nXg8 hK
     replace Xg8:=Xg8.chg hC nXg8
     replace nXg8:=mXg8
     clear mXg8
     replace A:=A.op S hK hC
     clear S hK hC
     have lXg8:=Xg8.lt
     refine ta 10 [.int .u64 0,.int .u64 0] 42 (pg) ?_
     intro v14 g15 Xg15 hg15 B
     have zg15:=Nat.le_trans A.size hg15
     have nXg15:=A.new hg15
     replace A:=A.keep B
     replace Xg8:=Xg8.keep B
     clear B
     refine ts Xg15 0 (.agg #[.int .u64 (coin E b),.int .u64 (seqn E b)]) [.int .u64 (coin E b),.int .u64 (seqn E b)] [.int .u64 (coin E b),.int .u64 (seqn E b)] ?_
     intro v16 Y C
     replace A:=At.cell A Xg15 C zg15 nXg15 (by decide)
     replace Xg8:=Xg8.chg C (show g8≠g15 by omega)
     clear C Xg15
     have Xg15:=Y
     clear Y
     refine gl_nil ?_
     refine ge_then ?_
     refine gc_fr [(0,pg g),(1,.int .u64 a),(2,.int .u64 b),(3,.int .u64 k),(8,.int .i64 0),(9,pg g8),(10,pg g15)] (by kernel_rfl) ?_
     refine gc_seq ?_
     refine gc_seq ?_
     refine gc_reg ?_
     refine tlr 32 [.int .u64 (coin E b),.int .u64 (seqn E b)] Xg15 0 ?_
     refine t 33 (.int .u64 k) ?_
     by_cases c17:holdsP (coin E b) k
     ·refine tc 34 26 #[.agg #[.int .u64 (coin E b),.int .u64 (seqn E b)],.int .u64 k] (holds_any (h.crng _) hk (decide_eq_true c17)) ?_
      rintro _ v18 ⟨rfl,B⟩
      refine ⟨_,rfl,?_⟩
      replace A:=A.keep B
      replace Xg8:=Xg8.keep B
      replace Xg15:=Xg15.keep B
      clear B
      refine t 35 (.bool false) ?_
      refine gl_nil ?_
      refine ge_then ?_
      refine gc_no ?_
      refine gc_skip ?_
      refine ge_then ?_
      refine gc_seq ?_
      refine gc_reg ?_
      refine t 36 (pg g8) ?_
      refine tl 37 (.int .u64 (coin E a)) Xg8 0 ?_
      refine t 38 (.int .u64 k) ?_
      refine tq 39 (.int .u64 (IntKind.u64.wrap ((coin E a) - k))) (.int .u64 ((coin E a) - k)) (wu (by have:=h.crng a; have:=h.crng b; have q:=c17; unfold holdsP at q; omega)) ?_
      refine t 40 (pg g8) ?_
      refine ts Xg8 0 (.int .u64 ((coin E a) - k)) [.int .u64 ((coin E a) - k)] [.int .u64 ((coin E a) - k),.int .u64 (seqn E a)] ?_
      intro v19 Y C
      replace A:=At.cell A Xg8 C zg8 nXg8 (by decide)
      replace Xg15:=Xg15.chg C (show g15≠g8 by omega)
      clear C Xg8
      have Xg8:=Y
      clear Y
      refine gl_nil ?_
      refine ge_then ?_
      refine gc_seq ?_
      refine gc_reg ?_
      refine t 41 (pg g15) ?_
      refine tl 42 (.int .u64 (coin E b)) Xg15 0 ?_
      refine t 43 (.int .u64 k) ?_
      refine tq 44 (.int .u64 (IntKind.u64.wrap ((coin E b) + k))) (.int .u64 ((coin E b) + k)) (wu (by have:=h.crng a; have:=h.crng b; have q:=c17; unfold holdsP at q; omega)) ?_
      refine t 45 (pg g15) ?_
      refine ts Xg15 0 (.int .u64 ((coin E b) + k)) [.int .u64 ((coin E b) + k)] [.int .u64 ((coin E b) + k),.int .u64 (seqn E b)] ?_
      intro v20 Y C
      replace A:=At.cell A Xg15 C zg15 nXg15 (by decide)
      replace Xg8:=Xg8.chg C (show g8≠g15 by omega)
      clear C Xg15
      have Xg15:=Y
      clear Y
      refine gl_nil ?_
      refine ge_then ?_
      refine gc_fr [(0,pg g),(1,.int .u64 a),(2,.int .u64 b),(8,.int .i64 0),(9,pg g8),(10,pg g15)] (by kernel_rfl) ?_
      refine gc_seq ?_
      refine gc_reg ?_
      refine t 46 (pg g) ?_
      refine t 47 (.int .u64 a) ?_
      refine tlr 48 [.int .u64 ((coin E a) - k),.int .u64 (seqn E a)] Xg8 0 ?_
      refine tc 49 27 #[pg g,.int .u64 a,.agg #[.int .u64 ((coin E a) - k),.int .u64 (seqn E a)]] (lay_any A.sx ha (by omega) (by omega)) ?_
      rintro _ v22 ⟨rfl,K21,S,hK,hC⟩
      refine ⟨_,rfl,?_⟩
      have mXg8:=not_op Xg8 nXg8 hK
      replace Xg8:=Xg8.chg hC nXg8
      replace nXg8:=mXg8
      clear mXg8
      have mXg15:=not_op Xg15 nXg15 hK
      replace Xg15:=Xg15.chg hC nXg15
      replace nXg15:=mXg15
      clear mXg15
      replace A:=A.op S hK hC
      clear S hK hC
      refine gl_nil ?_
      refine ge_then ?_
      refine gc_seq ?_
      refine gc_reg ?_
      refine t 50 (pg g) ?_
      refine t 51 (.int .u64 b) ?_
      refine tlr 52 [.int .u64 ((coin E b) + k),.int .u64 (seqn E b)] Xg15 0 ?_
      refine tc 53 27 #[pg g,.int .u64 b,.agg #[.int .u64 ((coin E b) + k),.int .u64 (seqn E b)]] (lay_any A.sx hb (by omega) (by omega)) ?_
      rintro _ v24 ⟨rfl,K23,S,hK,hC⟩
      refine ⟨_,rfl,?_⟩
      have mXg8:=not_op Xg8 nXg8 hK
      replace Xg8:=Xg8.chg hC nXg8
      replace nXg8:=mXg8
      clear mXg8
      have mXg15:=not_op Xg15 nXg15 hK
      replace Xg15:=Xg15.chg hC nXg15
      replace nXg15:=mXg15
      clear mXg15
      replace A:=A.op S hK hC
      clear S hK hC
      refine gl_nil ?_
      refine ge_then ?_
      refine gc_seq ?_
      refine gc_reg ?_
      refine t 8 (.int .i64 0) ?_
      refine gl_nil ?_
      refine ge_then ?_
      refine gc_ret ?_
      refine ge_ret (.int .i64 0) (rs1 8 (by kernel_rfl) (by kernel_rfl)) ?_
      have e1:moveR E a b k=0:=by first | (simp [moveR,c1,c10,c11,c17,c3]; done) | (subst_vars; simp_all [moveR])
      have e2:moveE E a b k=layE (layE E a ((coin E a) - k) (seqn E a)) b ((coin E b) + k) (seqn E b):=by simp [moveE,e1,c1,c10,c11,c17,c3]
      rw [e1,e2]
      exact ⟨rfl,_,_,_,A.sx,by omega,by omega,A.km,A.cc⟩
     ·refine tc 34 26 #[.agg #[.int .u64 (coin E b),.int .u64 (seqn E b)],.int .u64 k] (holds_any (h.crng _) hk (decide_eq_false c17)) ?_
      rintro _ v25 ⟨rfl,B⟩
      refine ⟨_,rfl,?_⟩
      replace A:=A.keep B
      replace Xg8:=Xg8.keep B
      replace Xg15:=Xg15.keep B
      clear B
      refine t 35 (.bool true) ?_
      refine gl_nil ?_
      refine ge_then ?_
      refine gc_yes ?_
      refine gc_seq ?_
      refine gc_reg ?_
      refine t 8 (.int .i64 91) ?_
      refine gl_nil ?_
      refine ge_then ?_
      refine gc_ret ?_
      refine ge_tr ?_
      refine ge_ret (.int .i64 91) (rs1 8 (by kernel_rfl) (by kernel_rfl)) ?_
      have e1:moveR E a b k=91:=by first | (simp [moveR,c1,c10,c11,c17,c3]; done) | (subst_vars; simp_all [moveR])
      have e2:moveE E a b k=E:=by simp [moveE,e1,c1,c10,c11,c17,c3]
      rw [e1,e2]
      exact ⟨rfl,_,_,_,A.sx,by omega,by omega,A.km,A.cc⟩
  ·refine tc 16 25 #[.int .u64 b] (isAcc_any hb (decide_eq_false c3)) ?_
   rintro _ v26 ⟨rfl,B⟩
   refine ⟨_,rfl,?_⟩
   replace A:=A.keep B
   clear B
   refine t 17 (.bool true) ?_
   refine t 18 (.bool true) ?_
   refine gl_nil ?_
   refine ge_then ?_
   refine gc_fr [(0,pg g),(1,.int .u64 a),(2,.int .u64 b),(3,.int .u64 k),(8,.int .i64 0),(18,.bool true)] (by kernel_rfl) ?_
   refine gc_yes ?_
   refine gc_seq ?_
   refine gc_reg ?_
   refine t 8 (.int .i64 92) ?_
   refine gl_nil ?_
   refine ge_then ?_
   refine gc_ret ?_
   refine ge_tr ?_
   refine ge_ret (.int .i64 92) (rs1 8 (by kernel_rfl) (by kernel_rfl)) ?_
   have e1:moveR E a b k=92:=by first | (simp [moveR,c1,c3]; done) | (subst_vars; simp_all [moveR])
   have e2:moveE E a b k=E:=by simp [moveE,e1,c1,c3]
   rw [e1,e2]
   exact ⟨rfl,_,_,_,A.sx,by omega,by omega,A.km,A.cc⟩
 ·refine tc 12 25 #[.int .u64 a] (isAcc_any ha (decide_eq_false c1)) ?_
  rintro _ v27 ⟨rfl,B⟩
  refine ⟨_,rfl,?_⟩
  replace A:=A.keep B
  clear B
  refine t 13 (.bool true) ?_
  refine t 14 (.bool true) ?_
  refine tn 15 ?_
  refine tn 16 ?_
  refine tn 17 ?_
  refine t 18 (.bool true) ?_
  refine gl_nil ?_
  refine ge_then ?_
  refine gc_fr [(0,pg g),(1,.int .u64 a),(2,.int .u64 b),(3,.int .u64 k),(8,.int .i64 0),(18,.bool true)] (by kernel_rfl) ?_
  refine gc_yes ?_
  refine gc_seq ?_
  refine gc_reg ?_
  refine t 8 (.int .i64 92) ?_
  refine gl_nil ?_
  refine ge_then ?_
  refine gc_ret ?_
  refine ge_tr ?_
  refine ge_ret (.int .i64 92) (rs1 8 (by kernel_rfl) (by kernel_rfl)) ?_
  have e1:moveR E a b k=92:=by first | (simp [moveR,c1]; done) | (subst_vars; simp_all [moveR])
  have e2:moveE E a b k=E:=by simp [moveE,e1,c1]
  rw [e1,e2]
  exact ⟨rfl,_,_,_,A.sx,by omega,by omega,A.km,A.cc⟩
theorem bump_any {B:Nat} {w:World} {K:Nat->Prop} {g:Nat} {E:Ents} {W:List Ents} {n N:Nat} {id:Int} (h:Sx B w K g E W n N) (hid:0<=id/\id < 18446744073709551616) (hn:n + 10<=4000000000000000000) (hN:N + 10<=100000000):Calls Tryz.prog 12 #[pg g,.int .u64 id] w (SxF B w K g (bumpE E id) W n N (.int .i64 (bumpR id))):=by
 have A:=h.at
 refine gc_enter (n:=20) Tryz.func12 rfl (by kernel_rfl) (by kernel_rfl) ?_
 refine gc_seq ?_
 refine gc_reg ?_
 refine t 4 (.int .i64 0) ?_
 refine gl_nil ?_
 refine ge_then ?_
 refine gc_seq ?_
 refine gc_seq ?_
 refine gc_reg ?_
 refine t 6 (.int .u64 id) ?_
 by_cases c1:isA id
 ·refine tc 7 25 #[.int .u64 id] (isAcc_any hid (decide_eq_true c1)) ?_
  rintro _ v2 ⟨rfl,B⟩
  refine ⟨_,rfl,?_⟩
  replace A:=A.keep B
  clear B
  refine t 8 (.bool false) ?_
  refine gl_nil ?_
  refine ge_then ?_
  refine gc_no ?_
  refine gc_skip ?_
  refine ge_then ?_
  refine gc_seq ?_
  refine gc_reg ?_
  refine t 9 (pg g) ?_
  refine t 10 (.int .u64 id) ?_
  refine tc 11 14 #[pg g,.int .u64 id] (get_any A.sx hid (by omega) (by omega)) ?_
  rintro _ v4 ⟨rfl,K3,S,hK,hC⟩
  refine ⟨_,rfl,?_⟩
  replace A:=A.op S hK hC
  clear S hK hC
  refine ta 5 [.int .u64 0,.int .u64 0] 42 (pg) ?_
  intro v5 g6 Xg6 hg6 B
  have zg6:=Nat.le_trans A.size hg6
  have nXg6:=A.new hg6
  replace A:=A.keep B
  clear B
  refine ts Xg6 0 (.agg #[.int .u64 (coin E id),.int .u64 (seqn E id)]) [.int .u64 (coin E id),.int .u64 (seqn E id)] [.int .u64 (coin E id),.int .u64 (seqn E id)] ?_
  intro v7 Y C
  replace A:=At.cell A Xg6 C zg6 nXg6 (by decide)
  clear C Xg6
  have Xg6:=Y
  clear Y
  refine gl_nil ?_
  refine ge_then ?_
  refine gc_seq ?_
  refine gc_reg ?_
  refine t 12 (pq g6 1) ?_
  refine tl 13 (.int .u64 (seqn E id)) Xg6 1 ?_
  refine tq 14 (.int .u64 (IntKind.u64.wrap (seqn E id + 1))) (.int .u64 ((seqn E id + 1) % 18446744073709551616)) (congrArg (Value.int .u64) (IntKind.wrap_u64 _)) ?_
  refine t 15 (pq g6 1) ?_
  refine ts Xg6 1 (.int .u64 ((seqn E id + 1) % 18446744073709551616)) [.int .u64 ((seqn E id + 1) % 18446744073709551616)] [.int .u64 (coin E id),.int .u64 ((seqn E id + 1) % 18446744073709551616)] ?_
  intro v8 Y C
  replace A:=At.cell A Xg6 C zg6 nXg6 (by decide)
  clear C Xg6
  have Xg6:=Y
  clear Y
  refine gl_nil ?_
  refine ge_then ?_
  refine gc_fr [(0,pg g),(1,.int .u64 id),(4,.int .i64 0),(5,pg g6)] (by kernel_rfl) ?_
  refine gc_seq ?_
  refine gc_reg ?_
  refine t 16 (pg g) ?_
  refine t 17 (.int .u64 id) ?_
  refine tlr 18 [.int .u64 (coin E id),.int .u64 ((seqn E id + 1) % 18446744073709551616)] Xg6 0 ?_
  refine tc 19 27 #[pg g,.int .u64 id,.agg #[.int .u64 (coin E id),.int .u64 ((seqn E id + 1) % 18446744073709551616)]] (lay_any A.sx hid (by omega) (by omega)) ?_
  rintro _ v10 ⟨rfl,K9,S,hK,hC⟩
  refine ⟨_,rfl,?_⟩
  have mXg6:=not_op Xg6 nXg6 hK
  replace Xg6:=Xg6.chg hC nXg6
  replace nXg6:=mXg6
  clear mXg6
  replace A:=A.op S hK hC
  clear S hK hC
  refine gl_nil ?_
  refine ge_then ?_
  refine gc_seq ?_
  refine gc_reg ?_
  refine t 4 (.int .i64 0) ?_
  refine gl_nil ?_
  refine ge_then ?_
  refine gc_ret ?_
  refine ge_ret (.int .i64 0) (rs1 4 (by kernel_rfl) (by kernel_rfl)) ?_
  have e1:bumpR id=0:=by first | (simp [bumpR,c1]; done) | (subst_vars; simp_all [bumpR])
  have e2:bumpE E id=layE E id (coin E id) ((seqn E id + 1) % 18446744073709551616):=by simp [bumpE,c1]
  rw [e1,e2]
  exact ⟨rfl,_,_,_,A.sx,by omega,by omega,A.km,A.cc⟩
 ·refine tc 7 25 #[.int .u64 id] (isAcc_any hid (decide_eq_false c1)) ?_
  rintro _ v11 ⟨rfl,B⟩
  refine ⟨_,rfl,?_⟩
  replace A:=A.keep B
  clear B
  refine t 8 (.bool true) ?_
  refine gl_nil ?_
  refine ge_then ?_
  refine gc_yes ?_
  refine gc_seq ?_
  refine gc_reg ?_
  refine t 4 (.int .i64 92) ?_
  refine gl_nil ?_
  refine ge_then ?_
  refine gc_ret ?_
  refine ge_tr ?_
  refine ge_ret (.int .i64 92) (rs1 4 (by kernel_rfl) (by kernel_rfl)) ?_
  have e1:bumpR id=92:=by first | (simp [bumpR,c1]; done) | (subst_vars; simp_all [bumpR])
  have e2:bumpE E id=E:=by simp [bumpE,c1]
  rw [e1,e2]
  exact ⟨rfl,_,_,_,A.sx,by omega,by omega,A.km,A.cc⟩
end Bk
end Go.Proofs.YtfpclhjmfpfhiaaGreat
namespace Go.Proofs.YtfpclhjmfpfhiaaGreat
namespace Kv
open Go.RowKit Go.Lib Pg
attribute [local go_sem] Oper.semAt_some
structure IterG (Tp:TypeId->Prop) (X:Nat->Prop) (n0:Nat) (w:World) (g:Nat) (EL:List En) (v:Value):Prop where
 ex:∃ bs1 bs2 bw W1,v=.func (.func 138) #[] #[.pointer (some ⟨bs1,0,none⟩),.pointer (some ⟨bs2,0,none⟩)]/\Itr Tp 105 #[.pointer (some ⟨bw,0,none⟩)] EL.length (ArC EL) (fun V=>Chg X W1 V)/\RdC X W1 g bs1 bs2 bw w/\n0<=bs1/\n0<=bs2
 small:∀ e∈EL,e.kl.length<=1000000000/\e.vl.length<=1000000000
theorem xwmG {w:World} {K D F V:Nat->Prop} {g m:Nat} {Q:List (List KV)} {jv:Value} {T:List Jr} {oj:Option Nat} {n N:Nat} (h:SX w K D F V g m Q jv T oj n N) (hN:N<=100000000) {X:Nat->Prop} (hx:∀ b,X b->b=g\/¬ K b) (hU:∀ b,X b->∀ cs,¬ Blk w b cs 5) (hl:∀ b,X b->b < w.heap.size):∃ L,Wm w X F D m L/\∀ f t,(wlk (ens L) f t).map En.kl2=Q.flatten.filter (abtw f t) :=
 h.wm hN (fun b hb hF=>(hx b hb).elim (fun e=>by subst e; exact h.own.ntop hF) (fun n=>n (h.own.map b hF))) hU hl
theorem iterG_of {Tp : TypeId → Prop} {X : Nat → Prop} {n0 : Nat} {w w1 w2 : World} {F D : Nat → Prop} {g m bw : Nat} {jv : Value} {n : Int} {L : List Pg} {f t : List Int} (hg : Blk w g [.pointer (some ⟨m, 0, none⟩), jv, .int .i64 n] 65) (Km : Wm w X F D m L) (B1 : Below w.heap.size w w1) (IT : Itr Tp 105 #[.pointer (some ⟨bw, 0, none⟩)] (wlk (ens L) f t).length (ArC (wlk (ens L) f t)) (fun V => Chg X w1 V))
    (b1 : Blk w2 w1.heap.size [.pointer (some ⟨g, 0, none⟩)] 24) (b2 : Blk w2 (w1.heap.size + 1) [.func (.func 105) #[] #[.pointer (some ⟨bw, 0, none⟩)]] 84) (B2 : Below w1.heap.size w1 w2) (h0 : n0 ≤ w.heap.size) :
    IterG Tp X n0 w2 g (wlk (ens L) f t) (.func (.func 138) #[] #[.pointer (some ⟨w1.heap.size, 0, none⟩), .pointer (some ⟨w1.heap.size + 1, 0, none⟩)]) :=
  ⟨⟨_, _, bw, w1, rfl, IT, ⟨Chg.of B2, b1, b2, ⟨_, (hg.keep B1).keep B2⟩⟩, Nat.le_trans h0 B1.size, by have := B1.size; omega⟩, fun e he => by
    obtain ⟨es, h1, h2⟩ := wlk_mem he
    exact Km.small es h1 e h2⟩
set_option maxHeartbeats 4000000 in
set_option maxRecDepth 100000 in
theorem sprefixG {Tp:TypeId->Prop} {X:Nat->Prop} {w:World} {K D:Nat->Prop} {g n N:Nat} {E:Ents} {W:List Ents} {pv:Value} {p:List Int} (h:SA w K D g E W n N) (hN:N<=100000000) (hp:By w pv p) (hpl:p.length<=1000000) (hX1:∀ b,X b->b=g\/¬ K b) (hXU:∀ b,X b->∀ cs,¬ Blk w b cs 5) (hXl:∀ b,X b->b < w.heap.size) (hT:¬ Tp 80) (hTe:¬ Tp 132) :
  Calls Tryz.prog 69 #[.pointer (some ⟨g,0,none⟩),pv] w fun e w'=>∃ v EL,e=.returned v/\IterG Tp X w.heap.size w' g EL v/\EL.map En.kl2=E.filter (fun x=>decide (p <+: x.1))/\Below w.heap.size w w':=by
 have hOct:=h.oct
 have HXX:=hid3 (show (∀ b,X b->b=g\/¬ K b)/\(∀ b,X b->∀ cs,¬ Blk w b cs 5)/\(∀ b,X b->b < w.heap.size) from ⟨hX1,hXU,hXl⟩)
 have HTT:=hid3 (show ¬ Tp 80/\¬ Tp 132 from ⟨hT,hTe⟩)
 clear hX1 hXU hXl hT hTe
 obtain ⟨F,V,m,Q,jv,T,oj,hX,rfl,hB⟩:=h.open
 obtain ⟨pa,pc,rfl,-⟩:=id hp.ex
 have hbel:=next_any hp.drew (by omega)
 have hS:=hX.blk.drew
 have HX:=hid3 hX
 have HP:=hid3 hp
 have HO:=hid3 hOct
 have hpl2:=hid3 hpl
 have bD:Below w.heap.size w w.drew:=⟨rfl,rfl,rfl,Nat.le_refl _,fun _ _=>rfl⟩
 clear hX hp h hB hOct hpl
 obtain ⟨pn,hpn⟩:∃ pn,Hid (p.length=pn):=⟨_,rfl⟩
 rw [hpn.out] at HP hbel ⊢
 go_enter Tryz.func69,Tryz.ntmps69
 go_wp2_with fail
 refine rg_start (S:=fun w'=>Blk w' g [.pointer (some ⟨m,0,none⟩),jv,.int .i64 n] 65) (by kernel_rfl) hS ?_
 refine rg_take 0 (some 5) (.pointer (some ⟨g,0,none⟩)) (by kernel_rfl) (fun _ _=>by kernel_rfl) (fun _ _ _ h=>h) hS ?_
 refine rg_take 1 (some 6) (.pointer (some ⟨g,0,none⟩)) (by kernel_rfl) (fun _ _=>by kernel_rfl) (fun _ _ _ h=>h) hS ?_
 refine rg_take 2 (some 7) (.pointer (some ⟨g,0,none⟩)) (by kernel_rfl) (fun _ _=>by kernel_rfl) (fun _ _ _ h=>h) hS ?_
 refine rg_take 3 (some 8) (.pointer (some ⟨g,0,none⟩)) (by kernel_rfl) (fun _ _=>by kernel_rfl) (fun _ _ _ h=>h) hS ?_
 refine rg_load 4 (some 9) (.pointer (some ⟨m,0,none⟩)) 56 8 g 0 (by kernel_rfl) (by kernel_rfl) (by kernel_rfl) (fun w' h=>ld_mp (h.cell (i:=0) rfl)) (fun _ _ _ h=>h) hS ?_
 refine rg_take 5 (some 10) (.slice pa pn pc) (by kernel_rfl) (fun _ _=>by kernel_rfl) (fun _ _ _ h=>h) hS ?_
 refine rg_take 6 (some 11) (.slice pa pn pc) (by kernel_rfl) (fun _ _=>by kernel_rfl) (fun _ _ _ h=>h) hS ?_
 refine rg_call 7 (some 12) 110 #[.slice pa pn pc] (by kernel_rfl) (by kernel_rfl) hbel ?_
 rintro e' w1 ⟨nv,rfl,O1,B1⟩
 refine ⟨_,rfl,hS.keep B1,?_⟩
 have B1':=joinB bD B1
 replace hS:=hS.keep B1
 have X1:=HX.out.keep B1'
 obtain ⟨L,Km,hw⟩:=xwmG X1 hN HXX.out.1 (fun b hb cs k=>HXX.out.2.1 b hb cs ⟨by rw [<- B1'.block b (HXX.out.2.2 b hb)]; exact k.blk⟩) (fun b hb=>Nat.lt_of_lt_of_le (HXX.out.2.2 b hb) B1'.size)
 have hnl:(nxt p).length<=p.length:=by
  rcases last255 p with h1 | ⟨A,x,B,rfl,hx,hB⟩
  ·rw [nxt_all h1]; simp
  ·rw [nxt_eq hx hB]; simp
 have tW:=walk_any (Tp:=Tp) Km (HP.out.keep B1') O1.by (by have:=hpl2.out; omega) (by have:=hpl2.out; omega) HTT.out.1 HTT.out.2
 refine rg_call 8 (some 13) 39 #[.pointer (some ⟨m,0,none⟩),.slice pa pn pc,nv] (by kernel_rfl) (by kernel_rfl) tW ?_
 rintro e' w2 ⟨bw,rfl,B2,IT⟩
 refine ⟨_,rfl,hS.keep B2,?_⟩
 replace hS:=hS.keep B2
 refine rg_call 9 (some 14) 109 #[.pointer (some ⟨g,0,none⟩),.func (.func 105) #[] #[.pointer (some ⟨bw,0,none⟩)]] (by kernel_rfl) (by kernel_rfl) counted_mk ?_
 rintro e' w3 ⟨rfl,k1,k2,B3⟩
 refine ⟨_,rfl,hS.keep B3,?_⟩
 replace hS:=hS.keep B3
 refine rg_take 10 (some 4) (.func (.func 138) #[] #[.pointer (some ⟨w2.heap.size,0,none⟩),.pointer (some ⟨w2.heap.size + 1,0,none⟩)]) (by kernel_rfl) (fun _ _=>by kernel_rfl) (fun _ _ _ h=>h) hS ?_
 refine rg_done (by kernel_rfl) ?_
 simp only [Act.put,List.setIfInBounds_toArray,List.set_cons_zero,List.set_cons_succ]
 have FI:=hid3 (iterG_of X1.blk Km B2 IT k1 k2 B3 B1'.size)
 have HW:=hid3 (hw p (nxt p))
 have BB:=hid3 (joinB (joinB B1' B2) B3)
 clear hS X1 Km hw tW IT k1 k2 B3 B2 B1 B1' O1 bD
 go_wp2
 go_ret
 refine ⟨_,_,rfl,FI.out,?_,BB.out⟩
 rw [HW.out]
 exact List.filter_congr (fun x hx=>abtw_pre (HO.out x hx))
theorem SA.tick {w:World} {K D:Nat->Prop} {g n N:Nat} {E:Ents} {W:List Ents} (h:SA w K D g E W n N):SA (tick g w n) K D g E W (n + 1) N:=by
 obtain ⟨F,V,m,Q,jv,T,oj,hX,hE,hB⟩:=h.open
 exact (hX.top (chg_tick g n w) (hX.blk.setCell (i:=2) _)).shut hE hB
theorem SA.cnt {w:World} {K D:Nat->Prop} {g n N:Nat} {E:Ents} {W:List Ents} (h:SA w K D g E W n N):w.cell? ⟨g,2,none⟩=some (.int .i64 n)/\w.frozen? ⟨g,2,none⟩=false:=by
 obtain ⟨F,V,m,Q,jv,T,oj,hX,hE,hB⟩:=h.open
 exact ⟨hX.blk.cell (i:=2) rfl,hX.blk.free 2⟩
theorem SA.kv {w:World} {K D:Nat->Prop} {g n N:Nat} {E:Ents} {W:List Ents} (h:SA w K D g E W n N):∃ cs,Blk w g cs 65:=by
 obtain ⟨F,V,m,Q,jv,T,oj,hX,hE,hB⟩:=h.open
 exact ⟨_,hX.blk⟩
def ItrD (W0:World) (Tp:TypeId->Prop) (g x0:Nat) (gf:Nat) (lb:Array Value) (N:Nat) (Ar:Nat->Array Value->Nat->World->Prop) (Rd:World->Prop):Prop :=
 ∀ (l:Nat) (J0:World->Prop) (J Jt Jx:Nat->World->Prop) (W:World),(∀ b,W0.heap.size<=b->∀ cs,¬ Blk W b cs 5)->W0.heap.size<=W.heap.size->St W.heap.size J0->(∀ i,St W.heap.size (J i))->(∀ i,St W.heap.size (Jt i))->(∀ i,St W.heap.size (Jx i))->g < W.heap.size ->
  (∀ V,J0 V->V.cell? ⟨g,2,none⟩=some (.int .i64 x0)/\V.frozen? ⟨g,2,none⟩=false/\Rd V/\J 0 (tick g V x0)) ->
  (∀ i V,J i V->V.cell? ⟨g,2,none⟩=some (.int .i64 ((x0 + 1 + i:Nat):Int))/\V.frozen? ⟨g,2,none⟩=false/\Rd V/\(i < N->Jt i (tick g V (x0 + 1 + i)))) ->
  (∀ i args V V',i < N->Jt i V->W.heap.size<=V.heap.size->Below V.heap.size V V'->Ar i args V.heap.size V'->YieldAt Fence.wide 0 Tryz.prog l args V' fun e V''=>KeepsT Tp W.heap.size V' V''/\((e=.returned (.bool true)/\J (i + 1) V'')\/(e=.returned (.bool false)/\Jx (i + 1) V''))) ->
  J0 W ->
  Calls Tryz.prog gf (#[.func (.yield l) #[] #[]] ++ lb) W fun e W'=>(∃ v,e=.returned v)/\W.heap.size<=W'.heap.size/\(J N W'\/∃ i,i < N/\Jx (i + 1) W')
theorem rf_outerD {Tp : TypeId → Prop} {gf N n g0 x0 : Nat} {lb : Array Value} {Ar : Nat → Array Value → Nat → World → Prop} {Rd : World → Prop} {w : World} (IT : ItrD w Tp g0 x0 gf lb N Ar Rd) {g : Operand} {ps : Array Tmp} {assign body : Code} {Q : Exit → Act → World → Prop} {a : Act}
    (hg : a.eval g = .func (.func gf) #[] lb) (eg : ∀ args w, (callFunc gf args).run Tryz.prog w = .ok (.enter gf args) w) (hArS : ∀ i args n V W, Ar i args n V → Cel V W → Ar i args n W) (hAn : ∀ i args n V, Ar i args n V → args.size = ps.size)
    (I0 : World → Prop) (I It : Nat → World → Prop) (Ix : Code → Nat → World → Prop) (hI0 : St w.heap.size I0) (hI : ∀ i, St w.heap.size (I i)) (hIt : ∀ i, St w.heap.size (It i)) (hIx : ∀ c i, St w.heap.size (Ix c i)) (hgw : g0 < w.heap.size)
    (hx0 : ∀ V, I0 V → V.cell? ⟨g0, 2, none⟩ = some (.int .i64 x0) ∧ V.frozen? ⟨g0, 2, none⟩ = false ∧ Rd V ∧ I 0 (tick g0 V x0))
    (hx : ∀ i V, I i V → V.cell? ⟨g0, 2, none⟩ = some (.int .i64 ((x0 + 1 + i : Nat) : Int)) ∧ V.frozen? ⟨g0, 2, none⟩ = false ∧ Rd V ∧ (i < N → It i (tick g0 V (x0 + 1 + i)))) (h0 : I0 w)
    (hround : RoundC Tp w N n ps assign body a.tmps Ar It I Ix)
    (hdone : ∀ D W, w.heap.size ≤ D → W.heap[D]? = some (.deferred (some [])) → I N W → Q .normal { a with defers := { target := .collected D, args := #[] } :: a.defers } W)
    (hstop : ∀ D c i W, w.heap.size ≤ D → W.heap[D]? = some (.deferred (some [])) → i < N → Ix c (i + 1) W → c.wpIn Fence.wide n Tryz.prog Q { a with defers := { target := .collected D, args := #[] } :: a.defers } W) :
    (Code.rangeFunc g ps assign body).wpIn Fence.wide n Tryz.prog Q a w := by
  refine wpIn_rangeFunc ?_
  intro fn _
  obtain ⟨W1, hW1⟩ : ∃ W1, (w.alloc (.deferred (some []))).alloc (.loop (recd fn a.tmps ps assign body w.heap.size .ready none)) = W1 := ⟨_, rfl⟩
  have hB1 : Below w.heap.size w W1 := by rw [← hW1]; exact joinB (below_alloc w _) (below_alloc _ _)
  have hs1 : W1.heap.size = w.heap.size + 1 + 1 := by rw [← hW1]; simp
  have hL1 : W1.heap[w.heap.size + 1]? = some (.loop (recd fn a.tmps ps assign body w.heap.size .ready none)) := by
    rw [← hW1]; have := World.alloc_heap_new (w.alloc (.deferred (some []))) (.loop (recd fn a.tmps ps assign body w.heap.size .ready none)); rwa [World.size_alloc] at this
  have hK1 : W1.heap[w.heap.size]? = some (.deferred (some [])) := by
    rw [← hW1]; exact (Below.heap_alloc _ _ _ (by simp)).trans (World.alloc_heap_new w _)
  have t1 : ∀ V x, (tick g0 V x).heap[w.heap.size + 1]? = V.heap[w.heap.size + 1]? := fun V x => tick_other (by omega)
  have t2 : ∀ V x, (tick g0 V x).heap[w.heap.size]? = V.heap[w.heap.size]? := fun V x => tick_other (by omega)
  have hNB : ∀ b, w.heap.size ≤ b → ∀ cs, ¬ Blk W1 b cs 5 := fun b hb cs k => by
    have hlt := k.lt
    have hk := k.blk
    rcases Nat.lt_or_ge w.heap.size b with h1 | h1
    · obtain rfl : b = w.heap.size + 1 := by omega
      rw [hL1] at hk
      cases hk
    · obtain rfl : b = w.heap.size := by omega
      rw [hK1] at hk
      cases hk
  refine ⟨w.heap.size + 1, [{ target := .collected w.heap.size, args := #[] }], W1, { target := .fn (.func gf) lb, args := #[.func (.yield (w.heap.size + 1)) #[] #[]] }, W1, gf,
    #[.func (.yield (w.heap.size + 1)) #[] #[]] ++ lb, W1, ?_, ?_, ?_, ?_, fun h => (by cases h), ?_⟩
  · rw [← hW1]; exact run_enterLoop_outer _ _ _ _ _
  · simp only [resolve, hg]
    simp [go_sem]
  · intro f' _; trivial
  · simp [invoke, go_sem, eg]
  · refine callsIn_wide.2 ?_
    refine (IT (w.heap.size + 1)
      (fun W => I0 W ∧ W.heap[w.heap.size + 1]? = some (.loop (recd fn a.tmps ps assign body w.heap.size .ready none)) ∧ W.heap[w.heap.size]? = some (.deferred (some [])))
      (fun i W => I i W ∧ W.heap[w.heap.size + 1]? = some (.loop (recd fn a.tmps ps assign body w.heap.size .ready none)) ∧ W.heap[w.heap.size]? = some (.deferred (some [])))
      (fun i W => It i W ∧ W.heap[w.heap.size + 1]? = some (.loop (recd fn a.tmps ps assign body w.heap.size .ready none)) ∧ W.heap[w.heap.size]? = some (.deferred (some [])))
      (fun i W => ∃ c, Ix c i W ∧ W.heap[w.heap.size + 1]? = some (.loop (recd fn a.tmps ps assign body w.heap.size .done (some c))) ∧ W.heap[w.heap.size]? = some (.deferred (some [])))
      W1 hNB (by omega) (fun X Y hx hr => ⟨hI0 X Y hx.1 (hr.mono (by omega)), hr.same _ _ hx.2.1 (.inl (by omega)), hr.same _ _ hx.2.2 (.inl (by omega))⟩)
      (fun i X Y hx hr => ⟨hI i X Y hx.1 (hr.mono (by omega)), hr.same _ _ hx.2.1 (.inl (by omega)), hr.same _ _ hx.2.2 (.inl (by omega))⟩)
      (fun i X Y hx hr => ⟨hIt i X Y hx.1 (hr.mono (by omega)), hr.same _ _ hx.2.1 (.inl (by omega)), hr.same _ _ hx.2.2 (.inl (by omega))⟩)
      (fun i X Y hx hr => by obtain ⟨c, h1, h2, h3⟩ := hx; exact ⟨c, hIx c i X Y h1 (hr.mono (by omega)), hr.same _ _ h2 (.inl (by omega)), hr.same _ _ h3 (.inl (by omega))⟩)
      (by omega)
      (fun V hv => by obtain ⟨q1, q2, q3, q4⟩ := hx0 V hv.1; exact ⟨q1, q2, q3, q4, (t1 V x0).trans hv.2.1, (t2 V x0).trans hv.2.2⟩)
      (fun i V hv => by obtain ⟨q1, q2, q3, q4⟩ := hx i V hv.1; exact ⟨q1, q2, q3, fun hi => ⟨q4 hi, (t1 V _).trans hv.2.1, (t2 V _).trans hv.2.2⟩⟩)
      ?_ ⟨hI0 _ _ h0 (Rec.of hB1), hL1, hK1⟩).mono ?_
    · rintro i args V V' hiN ⟨hi, hl, hk⟩ hsz hb ha
      have hr := hround _ i args V V' (by omega) (lt_of_block hl) ⟨_, hl⟩ hiN hi hb ha
      refine (yield_core (Tp := Tp) (B := w.heap.size) (i := 2 * i + 1) (I := zip2 I It) (Ix := fun c k => Ix c (k / 2)) (Ar := fun k => Ar (k / 2)) (fun j => hArS (j / 2)) (fun j => by unfold zip2; split; exact hI _; exact hIt _) (fun c j => hIx c _) (by omega) hl (by rw [zip2_odd]; exact hi) hb (by rw [show (2 * i + 1) / 2 = i by omega]; exact ha) (hAn _ _ _ _ ha) (wpIn_mono hr ?_)).mono ?_
      · intro e a1 W1 h
        cases e <;> first
          | (refine ⟨h.1, fun V2 W2 q1 q2 q3 q4 q5 q6 q7 => ?_⟩
             rw [zip2_odd] at q1
             rw [show (2 * i + 1) / 2 = i by omega] at q3
             exact wpIn_mono (h.2 V2 W2 q1 q2 q3 q4 q5 q6 q7) (fun e a W h => bpost_zip h))
          | exact h.elim
      · rintro e V'' ⟨hkp, h⟩
        have hk2 := hkp.same _ _ (Nat.le_refl _) (by omega) ((hb.block _ (lt_of_block hk)).trans hk) safe_def
        refine ⟨hkp.from (by omega) (by omega), h.imp (fun h => ⟨h.1, by have := h.2.1; rw [zip2_even] at this; exact this, h.2.2, hk2⟩) (fun h => ?_)⟩
        obtain ⟨h1, c, h2, h3⟩ := h
        rw [show (2 * i + 1 + 1) / 2 = i + 1 by omega] at h2
        exact ⟨h1, c, h2, h3, hk2⟩
    · rintro e W2 ⟨⟨v, rfl⟩, hsz, ⟨hi, hl, hk⟩ | ⟨i, hiN, c, hi, hl, hk⟩⟩
      · exact ⟨none, _, run_endLoop (P := Tryz.prog) hl (by simp [recd]), hdone _ _ (Nat.le_refl _) ((World.putObj_heap_other (by omega)).trans hk) (hI _ _ _ hi (Rec.put hl rfl (by omega) _))⟩
      · exact ⟨some c, _, run_endLoop (P := Tryz.prog) hl (by simp [recd]), hstop _ c i _ (Nat.le_refl _) ((World.putObj_heap_other (by omega)).trans hk) hiN (hIx c _ _ _ hi (Rec.put hl rfl (by omega) _))⟩
end Kv
end Go.Proofs.YtfpclhjmfpfhiaaGreat
namespace Go.Proofs.YtfpclhjmfpfhiaaGreat
namespace Bk
open Go.RowKit Go.Lib Pg Kv
attribute [local go_sem] Oper.semAt_some
def TpN (_:TypeId):Prop:=False
def accs (E:Ents):List Int:=(E.filter (fun x=>decide ([97] <+: x.1))).map (fun x=>coinB x.2)
def ArS (cs:List Int) (i:Nat) (args:Array Value) (_:Nat) (_:World):Prop:=∃ c,cs[i]? = some c/\args=#[.int .u64 c]
def RdS (W0:World) (X K D:Nat->Prop) (g:Nat) (E:Ents) (Wn:List Ents) (N:Nat) (V:World):Prop:=Chg X W0 V/\(∀ b,X b->∀ cs,¬ Blk V b cs 5)/\∃ x,SA V K D g E Wn x N
def Ext (a:Nat) (w2 V:World):Prop:=(∀ b,a<=b->b < w2.heap.size->V.heap[b]? = w2.heap[b]?)/\w2.heap.size<=V.heap.size
theorem Ext.rcd {a:Nat} {w2 V V':World} (h:Ext a w2 V) (hr:Rec w2.heap.size V V'):Ext a w2 V' :=
 ⟨fun b h1 h2=>by
  have e:=h.1 b h1 h2
  have h3:w2.heap[b]? = some w2.heap[b]:=Array.getElem?_eq_getElem h2
  rw [h3] at e ⊢
  exact hr.same b _ e (.inl h2),Nat.le_trans h.2 hr.size⟩
theorem Ext.keep {a:Nat} {w2 V V':World} (h:Ext a w2 V) (hb:Below V.heap.size V V'):Ext a w2 V' :=
 ⟨fun b h1 h2=>(hb.block b (Nat.lt_of_lt_of_le h2 h.2)).trans (h.1 b h1 h2),Nat.le_trans h.2 hb.size⟩
theorem Ext.tick {a g x:Nat} {w2 V:World} (h:Ext a w2 V) (hg:g < a):Ext a w2 (tick g V x) :=
 ⟨fun b h1 h2=>(tick_other (by omega)).trans (h.1 b h1 h2),by rw [tick_size]; exact h.2⟩
theorem Ext.keepsT {a:Nat} {w2 V V':World} (h:Ext a w2 V) (hk:KeepsT TpN a V V'):Ext a w2 V' :=
 ⟨fun b h1 h2=>by
  have e:=h.1 b h1 h2
  have h3:w2.heap[b]? = some w2.heap[b]:=Array.getElem?_eq_getElem h2
  rw [h3] at e ⊢
  exact hk.same b _ h1 e (fun _ _ _ _ h=>h),Nat.le_trans h.2 hk.size⟩
theorem Ext.blk {a b:Nat} {w2 V:World} {cs:List Value} {t:TypeId} (h:Ext a w2 V) (k:Blk w2 b cs t) (hb:a<=b):Blk V b cs t:=k.same (h.1 b hb k.lt)
theorem of4 {w:World}:Calls Tryz.prog 68 #[.int .i64 4] w fun e w'=>∃ v,e=.returned (.tuple #[v,.int .i64 0])/\OB w' (w.heap.size <= ·) v [97]/\Below w.heap.size w w':=Ky.of_any (k:=4)
set_option maxHeartbeats 8000000 in
set_option maxRecDepth 100000 in
theorem coins_itr {W0 : World} {K D X : Nat → Prop} {g bs x0 N : Nat} {E : Ents} {Wn : List Ents} (hS : SA W0 K D g E Wn x0 N) (hbs : Blk W0 bs [.pointer (some ⟨g, 0, none⟩)] 24) (hXb : ¬ X bs) (hX1 : ∀ b, X b → b = g ∨ ¬ K b) (hXl : ∀ b, X b → b < W0.heap.size) (hN : N ≤ 100000000) (hx : x0 + N ≤ 2000000000000000000) :
    ItrD W0 TpN g x0 67 #[.pointer (some ⟨bs, 0, none⟩)] (accs E).length (ArS (accs E)) (RdS W0 X K D g E Wn N) := by
  intro l J0 J Jt Jx W hNB hW0 hS0 hSJ hSt hSx hgW hJ0 hJ hY h0
  obtain ⟨_, _, ⟨c0, u0, xx, s0⟩, _⟩ := hJ0 _ h0
  have B1 := below_alloc W (.cells #[.func (.yield l) #[] #[]] 66)
  have Y1 := blk_new W [.func (.yield l) #[] #[]] 66
  have s1 : (W.alloc (.cells #[.func (.yield l) #[] #[]] 66)).heap.size = W.heap.size + 1 := by simp
  obtain ⟨Wa, hWa⟩ : ∃ Wa, Hid (W.alloc (.cells #[.func (.yield l) #[] #[]] 66) = Wa) := ⟨_, rfl⟩
  rw [hWa.out] at B1 Y1 s1
  have bsW := hbs.chg c0 hXb
  have hK0 : ∀ b, K b → b < W0.heap.size := fun b hb => hS.lt hb
  have HX' : Hid (∀ b, (X b ∨ (W0.heap.size ≤ b ∧ b < W.heap.size)) → b = g ∨ ¬ K b) := hid3 (fun b hb => hb.elim (hX1 b) (fun h => .inr (fun hk => by have := hK0 b hk; omega)))
  have HXl : Hid (∀ b, (X b ∨ (W0.heap.size ≤ b ∧ b < W.heap.size)) → b < W.heap.size) := hid3 (fun b hb => hb.elim (fun h => Nat.lt_of_lt_of_le (hXl b h) hW0) (fun h => h.2))
  have HXU : Hid (∀ b, (X b ∨ (W0.heap.size ≤ b ∧ b < W.heap.size)) → ∀ cs, ¬ Blk W b cs 5) := hid3 (fun b hb => hb.elim (u0 b) (fun h => hNB b h.1))
  have HY := hid3 hY
  have HJ := hid3 hJ
  have HJ0 := hid3 hJ0
  have H0 := hid3 h0
  have HS := hid3 s0
  have HC0 := hid3 c0
  have HB1 := hid3 B1
  have HY1 := hid3 Y1
  have HBS := hid3 bsW
  clear hJ0 hJ hY h0 s0 c0 B1 Y1 bsW hNB u0
  refine (callsIn_wide (n := 0)).1 ?_
  refine callsIn_of_wp_marks Tryz.func67 rfl trivial ?_ rfl
  simp only [Tryz.ntmps67, List.size_toArray, List.length_cons, List.length_nil, Nat.reduceAdd, Nat.reduceSub, Array.replicate_succ, Array.replicate_zero, List.push_toArray, List.append_toArray, List.nil_append, List.cons_append]
  gi_wp2_with first
    | (refine ⟨trivial, rfl, ?_⟩; gi_at_call 68; rw [hWa.out]; refine (callsIn_wide.2 of4).mono ?_; rintro e' w1 ⟨v1, rfl, O1, B2⟩; have cB := (HBS.out.keep (joinB HB1.out B2)).cell (i := 0) rfl; have tP := sprefixG (Tp := TpN) (X := fun b => X b ∨ (W0.heap.size ≤ b ∧ b < W.heap.size)) (HS.out.keep (joinB HB1.out B2)) hN O1.by (by decide) HX'.out (fun b hb cs k => HXU.out b hb cs ⟨by rw [← (joinB HB1.out B2).block b (HXl.out b hb)]; exact k.blk⟩) (fun b hb => Nat.lt_of_lt_of_le (HXl.out b hb) (joinB HB1.out B2).size) (fun h => h) (fun h => h); obtain ⟨pa, pc, rfl⟩ := O1.shape)
    | (refine ⟨trivial, rfl, ?_⟩; gi_at_call 69; refine (callsIn_wide.2 tP).mono ?_; rintro e' w2 ⟨v2, EL, rfl, IG, hEL, B3⟩; obtain ⟨bs1, bs2, bw, W1, rfl, IT, hRd, hb1, hb2⟩ := IG.ex; have hsm := IG.small; clear tP IG)
  have BW := joinB (joinB HB1.out B2) B3
  have hw1 : W.heap.size + 1 ≤ w1.heap.size := by have := B2.size; omega
  have hw2 : W.heap.size + 1 ≤ w2.heap.size := Nat.le_trans hw1 B3.size
  have YB := (HY1.out.keep B2).keep B3
  have hlen : (accs E).length = EL.length := by simp [accs, ← hEL]
  have hle : EL.length ≤ N := by
    have h1 := HS.out.size
    have h2 : (EL.map En.kl2).length ≤ E.length := by rw [hEL]; exact List.length_filter_le _ _
    rw [List.length_map] at h2
    omega
  have ITC := counted_itr (g := g) (bs1 := bs1) (bs2 := bs2) (x0 := x0) IT (fun h => h) (by omega)
  have J2 := hS0 _ _ H0.out (Rec.of BW)
  have E2 : Ext W.heap.size w2 w2 := ⟨fun _ _ _ => rfl, Nat.le_refl _⟩
  have RDC : Hid (∀ V, RdS W0 X K D g E Wn N V → Ext W.heap.size w2 V → RdC (fun b => X b ∨ (W0.heap.size ≤ b ∧ b < W.heap.size)) W1 g bs1 bs2 bw V) := hid3 (fun V hR hE => by
    obtain ⟨c1, _, x, s1⟩ := hR
    obtain ⟨r1, r2, r3, _⟩ := hRd
    refine ⟨⟨?_, ?_, ?_, Nat.le_trans r1.size hE.2, fun b hb hn => ?_⟩, hE.blk r2 (by omega), hE.blk r3 (by omega), s1.kv⟩
    · rw [c1.os, ← HC0.out.os, ← BW.os, r1.os]
    · rw [c1.tape, ← HC0.out.tape, ← BW.tape, r1.tape]
    · rw [c1.output, ← HC0.out.output, ← BW.output, r1.output]
    · rw [← r1.same b hb hn]
      rw [not_or] at hn
      rcases Nat.lt_or_ge b W0.heap.size with h1 | h1
      · rw [c1.same b h1 hn.1, BW.block b (by omega), HC0.out.same b h1 hn.1]
      · exact hE.1 b (by omega) (Nat.lt_of_lt_of_le hb r1.size))
  have HEL := hid3 hEL
  have HSM := hid3 hsm
  have HYB := hid3 YB
  clear hEL hsm YB B2 B3 hRd O1 cB IT BW HB1 HY1
  refine rf_outerC ITC (by rfl) (enters_of Tryz.func138 (by kernel_rfl) rfl) (fun i args n V V' h hc => h.cel hc) (fun i args n V h => by obtain ⟨e, kv, vv, s, _, rfl, _⟩ := h; rfl)
    (fun V => J0 V ∧ Ext W.heap.size w2 V)
    (fun i V => J i V ∧ Ext W.heap.size w2 V)
    (fun i V => Jt i V ∧ Ext W.heap.size w2 V)
    (fun c i V => c = .ret ∧ Jx i V ∧ w2.heap.size ≤ V.heap.size)
    (fun A B hx hr => ⟨hS0 A B hx.1 (hr.mono (by omega)), hx.2.rcd hr⟩)
    (fun i A B hx hr => ⟨hSJ i A B hx.1 (hr.mono (by omega)), hx.2.rcd hr⟩)
    (fun i A B hx hr => ⟨hSt i A B hx.1 (hr.mono (by omega)), hx.2.rcd hr⟩)
    (fun c i A B hx hr => ⟨hx.1, hSx i A B hx.2.1 (hr.mono (by omega)), Nat.le_trans hx.2.2 hr.size⟩)
    (by omega)
    (fun V hv => by obtain ⟨q1, q2, q3, q4⟩ := HJ0.out V hv.1; exact ⟨q1, q2, RDC.out V q3 hv.2, q4, hv.2.tick hgW⟩)
    (fun i V hv => by obtain ⟨q1, q2, q3, q4⟩ := HJ.out i V hv.1; exact ⟨q1, q2, RDC.out V q3 hv.2, fun hi => ⟨q4 (by omega), hv.2.tick hgW⟩⟩)
    ⟨J2, E2⟩ ?_ ?_ ?_
  · rintro l2 i args V Wv hl hlV hrec hiN ⟨hJi, hExt⟩ hb ⟨e0, kv, vv, s0, he0, rfl, hk0, hv0, _⟩
    obtain ⟨ak0, nk, hk1⟩ := hk0.shape
    obtain ⟨av, nv, hv1⟩ := hv0.shape
    subst hk1 hv1
    simp
    gi_wp2
    refine ⟨Below.refl _ _, ?_⟩
    intro V2 W2 hJ2 hExt2 hb2 hAr2 hoth hsz3 hV2 r hrec2
    obtain ⟨e1, kv1, vv1, t1, he1, harr, hk2, hv2, ht1⟩ := hAr2
    obtain rfl : e1 = e0 := by rw [he0] at he1; cases he1; rfl
    simp at harr
    obtain ⟨rfl, rfl⟩ := harr
    have tA := acct_any (ByU.of hv2) (HSM.out e1 (List.mem_of_getElem? he0)).2
    have hci : (accs E)[i]? = some (coinB e1.vl) := by simp [accs, ← HEL.out, he0, En.kl2]
    have yB := hExt2.blk HYB.out (Nat.le_refl _)
    have HE2 := hid3 hExt2
    have HYY := hid3 (HY.out i #[.int .u64 (coinB e1.vl)] V2)
    have HJT := hid3 hJ2
    have HB2 := hid3 hb2
    have hs2 : w2.heap.size ≤ V2.heap.size := hExt2.2
    have hs3 : V2.heap.size ≤ W2.heap.size := hb2.size
    have HYV := hid3 (yB.keep hb2)
    have HCI := hid3 hci
    clear hJi hExt hb hk0 hv0 hk2 hv2 hoth hExt2 hJ2 hb2 yB he1 he0 ht1 hci
    obtain ⟨cc, hcc⟩ : ∃ cc, Hid (coinB e1.vl = cc) := ⟨_, rfl⟩
    obtain ⟨ss, hss⟩ : ∃ ss, Hid (seqB e1.vl = ss) := ⟨_, rfl⟩
    simp only [hcc.out, hss.out] at tA HYY HCI
    gi_wp2_with (refine ⟨trivial, rfl, ?_⟩; gi_at_call 34; refine (CallsIn.inRound l2 (callsIn_wide.2 tA)).mono ?_; rintro e' w3 ⟨rfl, B3⟩; clear tA; have B4 := below_alloc w3 (.cells #[.int .u64 cc, .int .u64 ss] 42); have yC := (HYV.out.keep (joinB B3 B4)).cell (i := 0) rfl; have hYY := HYY.out _ (by omega) HJT.out (by omega) (joinB HB2.out (joinB B3 B4)) ⟨_, HCI.out, rfl⟩; obtain ⟨fn, tmps, assign, body, hy, hR⟩ := hYY; have hR2 : RoundIn (Fence.wide.inRound l2) 0 Tryz.prog l fn tmps assign body (w3.alloc (.cells #[.int .u64 cc, .int .u64 ss] 42)) _ := ⟨hR.1, fun c cs _ => hR.2 c cs (fun _ h => by cases h)⟩; have HR := hid3 hR2; have HK := hid3 (joinB B3 B4); clear hR hR2 B3 B4)
    refine ⟨rfl, HR.out.mono ?_⟩
    rintro e' w5 ⟨hk5, h5⟩
    have hkk : KeepsT TpN W.heap.size W2 w5 := (KeepsT.of HK.out).trans hk5
    have hE5 := (HE2.out.keep HB2.out).keepsT hkk
    have hk2 : KeepsT TpN w2.heap.size W2 w5 := hkk.mono (by omega)
    rcases h5 with ⟨rfl, hJ5⟩ | ⟨rfl, hJ5⟩
    · gi_wp2
      exact ⟨hk2, hJ5, hE5⟩
    · gi_wp2
      exact ⟨hk2, rfl, hJ5, hE5.2⟩
  · rintro D' W' hD hK ⟨hJn, hE⟩
    gi_wp2
    refine ⟨by simp, .inl ⟨_, _, rfl, run_takeDeferred hK, ?_⟩⟩
    have := hE.2
    exact ⟨_, results_none rfl _ _ _, ⟨_, rfl⟩, by simp; omega, .inl (by rw [hlen]; exact hSJ _ _ _ hJn (Rec.put hK rfl (by omega) _))⟩
  · rintro D' c i W' hD hK hiN ⟨rfl, hJx', hsz⟩
    gi_wp2
    refine ⟨by simp, .inl ⟨_, _, rfl, run_takeDeferred hK, ?_⟩⟩
    exact ⟨_, results_none rfl _ _ _, ⟨_, rfl⟩, by simp; omega, .inr ⟨i, by omega, hSx (i + 1) _ _ hJx' (Rec.put hK rfl (by omega) _)⟩⟩
end Bk
end Go.Proofs.YtfpclhjmfpfhiaaGreat
namespace Go.Proofs.YtfpclhjmfpfhiaaGreat
namespace Bk
open Go.RowKit Go.Lib Pg Lim Kv
attribute [local go_sem] Oper.semAt_some
structure SumA (w:World) (B t:Nat) (ao:Option Addr) (n c:Nat) (x:Int):Prop where
 ex:∃ b o l,l.length=n/\n<=c/\IsN l x/\Go.Proofs.YtfpclhjmfpfhiaaGreat.At w ao b o l/\B<=b/\b≠t
theorem SumA.off {w w':World} {B t n c:Nat} {ao:Option Addr} {x:Int} (h:SumA w B t ao n c x) (hw:∀ b,B<=b->b≠t->b < w.heap.size->w'.heap[b]? = w.heap[b]?):SumA w' B t ao n c x:=by
 obtain ⟨b,o,l,h1,h2,h3,h4,h5,h6⟩:=h.ex
 refine ⟨b,o,l,h1,h2,h3,⟨h4.loc,fun i hi => ?_⟩,h5,h6⟩
 have hc:=h4.cell i hi
 rw [World.cell?_of_block (w:=w) (hw b h5 h6 (cell_lt hc))]
 exact hc
theorem SumA.cel {w w' : World} {B t n c : Nat} {ao : Option Addr} {x : Int} (h : SumA w B t ao n c x) (hr : Cel w w') : SumA w' B t ao n c x := by
  obtain ⟨b, o, l, h1, h2, h3, h4, h5, h6⟩ := h.ex
  refine ⟨b, o, l, h1, h2, h3, ⟨h4.loc, fun i hi => ?_⟩, h5, h6⟩
  have hc := h4.cell i hi
  have hw : w'.heap[b]? = w.heap[b]? := by
    cases hh : w.heap[b]? with
    | none => simp [World.cell?, hh] at hc
    | some ob => cases ob <;> first
      | exact hr.same b _ hh rfl
      | (simp [World.cell?, hh] at hc)
  rw [World.cell?_of_block (w := w) hw]
  exact hc
theorem SumA.keep {w w':World} {B t n c:Nat} {ao:Option Addr} {x:Int} (h:SumA w B t ao n c x) (hb:Below w.heap.size w w'):SumA w' B t ao n c x:=h.off (fun b _ _ hl=>hb.block b hl)
theorem SumA.w {w:World} {B t n c:Nat} {ao:Option Addr} {x:Int} (h:SumA w B t ao n c x):Rc.NatW w B ao n c x:=by
 obtain ⟨b,o,l,h1,h2,h3,h4,h5,h6⟩:=h.ex
 exact ⟨b,o,l,h1,h2,h3,h4,h5⟩
theorem sum_of {w:World} {B t n c:Nat} {ao:Option Addr} {x:Int} (h:Rc.NatW w B ao n c x) (h1:t < B):SumA w B t ao n c x:=by
 obtain ⟨b,o,l,h1,h2,h3,h4,h5⟩:=h.ex
 exact ⟨b,o,l,h1,h2,h3,h4,h5,by omega⟩
theorem SumA.low {w:World} {B B' t n c:Nat} {ao:Option Addr} {x:Int} (h:SumA w B t ao n c x) (hB:B'<=B):SumA w B' t ao n c x:=by
 obtain ⟨b,o,l,h1,h2,h3,h4,h5,h6⟩:=h.ex
 exact ⟨b,o,l,h1,h2,h3,h4,by omega,h6⟩
theorem sum_at {w:World} {B n c:Nat} {ao:Option Addr} {x:Int} (h:Rc.NatW w B ao n c x) (hB:B<=w.heap.size) (w':World) (hb:Below w.heap.size w w'):SumA w' B w.heap.size ao n c x:=by
 obtain ⟨b,o,l,h1,h2,h3,h4,h5⟩:=h.ex
 rcases Nat.lt_or_ge b w.heap.size with hl | hl
 ·exact SumA.keep ⟨b,o,l,h1,h2,h3,h4,h5,by omega⟩ hb
 ·have hn:l=[]:=by
   cases l with
   | nil=>rfl
   | cons y l=>exact absurd (cell_lt (h4.cell 0 (by simp))) (by simpa using hl)
  subst hn
  exact ⟨w.heap.size + 1,o,[],h1,h2,h3,⟨.inl rfl,fun i hi=>by simp at hi⟩,by omega,by omega⟩
theorem wOf {w:World} {x:Int} (h0:0<=x) (h1:x < 18446744073709551616):Calls Tryz.prog 22 #[.int .u64 x] w fun e w'=>∃ a k d,e=.returned (.slice a k d)/\Rc.NatW w' w.heap.size a k d x/\k<=1/\Below w.heap.size w w':=by
 refine (Go.Proofs.YtfpclhjmfpfhiaaGreat.of_any x w h0 h1).mono ?_
 rintro e w' ⟨v,r,rfl,hnw,hI,hlen,hB⟩
 obtain ⟨a,d,rfl,hO⟩:=Rc.newV_w hnw hI (Nat.le_refl _)
 exact ⟨a,_,d,rfl,hO,hlen,hB⟩
theorem wAdd {w:World} {ao ao':Option Addr} {n c n' c':Nat} {x y:Int} (h:NatA w ao n c x) (h':NatA w ao' n' c' y) (hn:n<=1099511627776) (hn':n'<=1099511627776) :
  Calls Tryz.prog 21 #[.slice ao n c,.slice ao' n' c'] w fun e w'=>∃ a k d,e=.returned (.slice a k d)/\Rc.NatW w' w.heap.size a k d (x + y)/\k<=n + n' + 1/\Below w.heap.size w w':=by
 obtain ⟨b,o,l,h1,h2,h3,h4,rfl⟩:=h.ex
 obtain ⟨b',o',l',h1',h2',h3',h4',rfl⟩:=h'.ex
 refine (add_any ao n c b o ao' n' c' b' o' l l' w h1 h1' h2 h2' hn hn' h3 h3' h4 h4').mono ?_
 rintro e w' ⟨v,r,rfl,hnw,hI,hlen,hB⟩
 obtain ⟨a,d,rfl,hO⟩:=Rc.newV_w hnw hI (Nat.le_refl _)
 exact ⟨a,_,d,rfl,hO,hlen,hB⟩
theorem SA.rcd {w w':World} {K D:Nat->Prop} {g n N B:Nat} {E:Ents} {W:List Ents} (h:SA w K D g E W n N) (hr:Rec B w w'):SA w' K D g E W n N :=
 h.same (fun b hK=>by obtain ⟨cs,t,k,_⟩:=h.kind b hK; exact (hr.same b _ k.blk (.inr rfl)).trans k.blk.symm) (fun b _ _ hk=>by obtain ⟨cs,k⟩:=hk; exact (hr.same b _ k.blk (.inr rfl)).trans k.blk.symm)
theorem ld_n {w:World} {g:Nat} {v:Value} (c:Blk w g [v] 49):(loadVar 49 ⟨g,0,none⟩).run Tryz.prog w=.ok v w:=by
 have c:=c.cell (i:=0) rfl
 go_simp
theorem run_sn {a:Act} {w:World} {o:Oper} (k q:Nat) {g n c:Nat} {u:Value} {ao:Option Addr} (ho:o.op=.store 49 (.tmp k) (.tmp q)) (hp:a.eval (.tmp k)=.pointer (some ⟨g,0,none⟩)) (hq:a.eval (.tmp q)=.slice ao n c) (hb:Blk w g [u] 49) :
  (execOp a.eval o).run Tryz.prog w=.ok .skip (w.setCell ⟨g,0,none⟩ (.slice ao n c)):=by
 have hc:=hb.cell (i:=0) rfl
 have hf:=hb.free 0
 simp only [execOp,ho,hp,hq]
 go_simp
structure TotI (Wb:World) (B t:Nat) (K D:Nat->Prop) (g:Nat) (E:Ents) (Wn:List Ents) (N x i:Nat) (V:World):Prop where
 chg:Chg (fun b=>b=g\/b=t) Wb V
 sa:SA V K D g E Wn x N
 out:∃ a k d,Blk V t [.slice a k d] 49/\SumA V B t a k d ((accs E).take i).sum/\k<=2 * i + 1
section
variable {Wb V V':World} {B t g x i N:Nat} {K D:Nat->Prop} {E:Ents} {Wn:List Ents}
theorem TotI.rcd (h:TotI Wb B t K D g E Wn N x i V) (hr:Rec Wb.heap.size V V'):TotI Wb B t K D g E Wn N x i V':=by
 obtain ⟨a,k,d,h1,h2,h3⟩:=h.out
 exact ⟨chg_rcd h.chg hr (Nat.le_refl _),SA.rcd h.sa hr,a,k,d,rec_cel h1 hr,h2.cel hr.cel,h3⟩
theorem TotI.tick (h:TotI Wb B t K D g E Wn N x i V) (hg:g < B):TotI Wb B t K D g E Wn N (x + 1) i (tick g V x):=by
 obtain ⟨a,k,d,h1,h2,h3⟩:=h.out
 have hc:=chg_tick g x V
 have hne:t≠g:=fun e=>by
  obtain ⟨cs,k⟩:=h.sa.kv
  subst e
  exact absurd (h1.eq k).2 (by decide)
 exact ⟨h.chg.trans hc (fun b _ e=>.inl e),h.sa.tick,a,k,d,h1.chg hc hne,h2.off (fun b hb _ hl=>hc.same b hl (fun e=>by have e':b=g:=e; omega)),h3⟩
theorem TotI.rd (h:TotI Wb B t K D g E Wn N x i V):RdS Wb (fun b=>b=g\/b=t) K D g E Wn N V:=by
 refine ⟨h.chg,fun b hb cs k => ?_,_,h.sa⟩
 obtain ⟨a,k2,d,h1,_⟩:=h.out
 rcases hb with rfl | rfl
 ·obtain ⟨cs',k'⟩:=h.sa.kv
  exact absurd (k.eq k').2 (by decide)
 ·exact absurd (k.eq h1).2 (by decide)
end
theorem accs_rng {w:World} {K D:Nat->Prop} {g n N:Nat} {E:Ents} {W:List Ents} (h:SA w K D g E W n N) {i:Nat} {c:Int} (hc:(accs E)[i]? = some c):0<=c/\c < 18446744073709551616:=by
 have hm:=List.mem_of_getElem? hc
 obtain ⟨x,hx,rfl⟩:=List.mem_map.1 hm
 exact (coinB_rng (SA.octv h x (List.mem_filter.1 hx).1)).1
set_option maxHeartbeats 8000000 in
set_option maxRecDepth 100000 in
theorem total_any {w : World} {K D : Nat → Prop} {g bs x0 N : Nat} {E : Ents} {Wn : List Ents} (hS : SA w K D g E Wn x0 N) (hbs : Blk w bs [.pointer (some ⟨g, 0, none⟩)] 24) (hN : N ≤ 100000000) (hx : x0 + N ≤ 2000000000000000000) :
    Calls Tryz.prog 40 #[.func (.func 67) #[] #[.pointer (some ⟨bs, 0, none⟩)]] w fun e w' => ∃ a k d, e = .returned (.slice a k d) ∧ Rc.NatW w' w.heap.size a k d (accs E).sum ∧ k ≤ 2 * (accs E).length + 1 ∧ SA w' K D g E Wn (x0 + 1 + (accs E).length) N ∧ Chg (· = g) w w' := by
  have hglt : g < w.heap.size := hS.lt hS.top
  have hbg : bs ≠ g := fun e => by
    obtain ⟨cs, k⟩ := hS.kv
    subst e
    exact absurd (hbs.eq k).2 (by decide)
  have HS := hid3 hS
  have HBS := hid3 hbs
  clear hS hbs
  refine (callsIn_wide (n := 0)).1 ?_
  refine callsIn_of_wp_marks Tryz.func40 rfl trivial ?_ rfl
  simp only [Tryz.ntmps40, List.size_toArray, List.length_cons, List.length_nil, Nat.reduceAdd, Nat.reduceSub, Array.replicate_succ, Array.replicate_zero, List.push_toArray, List.append_toArray, List.nil_append, List.cons_append]
  gi_wp2_with (refine ⟨trivial, rfl, ?_⟩; gi_at_call 22; refine (callsIn_wide.2 (wOf (x := 0) (by decide) (by decide))).mono ?_; rintro e' w1 ⟨a0, k0, d0, rfl, N0, hk0, B1⟩)
  have A1 := below_alloc w1 (.cells #[.slice a0 k0 d0] 49)
  have T1 := blk_new w1 [.slice a0 k0 d0] 49
  have z1 : (w1.alloc (.cells #[.slice a0 k0 d0] 49)).heap.size = w1.heap.size + 1 := by simp
  have zw := B1.size
  have S1 := sum_at N0 zw _ A1
  obtain ⟨Wb, hWb⟩ : ∃ Wb, Hid (w1.alloc (.cells #[.slice a0 k0 d0] 49) = Wb) := ⟨_, rfl⟩
  rw [hWb.out] at A1 T1 z1 S1 ⊢
  have BB := joinB B1 A1
  have SB := HS.out.keep BB
  have bB := HBS.out.keep BB
  have hKt : ∀ b, K b → b < w.heap.size := fun b hb => HS.out.lt hb
  have IT := coins_itr (X := fun b => b = g ∨ b = w1.heap.size) SB bB (fun h => by have := HBS.out.lt; rcases h with h | h <;> omega) (fun b hb => hb.elim .inl (fun e => .inr (fun hk => by have := hKt b hk; omega))) (fun b hb => by rcases hb with h | h <;> omega) hN hx
  have I0 : TotI Wb w.heap.size w1.heap.size K D g E Wn N x0 0 Wb := ⟨Chg.refl _ _, SB, a0, k0, d0, T1, by simpa using S1, by omega⟩
  have HB := hid3 BB
  have HT := hid3 T1
  clear S1 SB bB T1 A1 B1 N0 BB
  refine rf_outerD IT (by rfl) (enters_of Tryz.func67 (by kernel_rfl) rfl) (fun i args n V V' h hc => h) (fun i args n V h => by obtain ⟨c, _, rfl⟩ := h; rfl)
    (fun V => TotI Wb w.heap.size w1.heap.size K D g E Wn N x0 0 V)
    (fun i V => TotI Wb w.heap.size w1.heap.size K D g E Wn N (x0 + 1 + i) i V)
    (fun i V => TotI Wb w.heap.size w1.heap.size K D g E Wn N (x0 + 1 + i + 1) i V)
    (fun c i V => False)
    (fun A B hx hr => hx.rcd hr) (fun i A B hx hr => hx.rcd hr) (fun i A B hx hr => hx.rcd hr) (fun c i A B hx hr => hx) (by omega)
    (fun V hv => by have q := hv.sa.cnt; exact ⟨q.1, q.2, hv.rd, hv.tick hglt⟩)
    (fun i V hv => by have q := hv.sa.cnt; exact ⟨q.1, q.2, hv.rd, fun _ => hv.tick hglt⟩)
    I0 ?_ ?_ ?_
  · rintro l2 i args V Wv hl hlV hrec hiN hT hb ⟨c, hc, rfl⟩
    simp
    gi_wp2
    refine ⟨Below.refl _ _, ?_⟩
    intro V2 W2 hT2 hb2 hAr2 hoth hsz3 hV2 r hrec2
    obtain ⟨a, k, d, h1, h2, h3⟩ := hT2.out
    have hcr := accs_rng hT2.sa hc
    have hbD := joinB hb2 (belowD W2)
    have P0 := h1.keep hbD
    have Q0 := h2.keep hbD
    have hil : (accs E).length ≤ N := Nat.le_trans (by unfold accs; rw [List.length_map]; exact List.length_filter_le _ _) hT2.sa.size
    have hws := hT2.chg.size
    clear hb hT hoth h1 h2
    gi_wp2
    refine iz_start (z := 4) (S := fun w' => Blk w' w1.heap.size [.slice a k d] 49) (by kernel_rfl) ?_
    refine iz_load 0 (some 8) (.slice a k d) 49 3 w1.heap.size 0 (by kernel_rfl) (by kernel_rfl) (by kernel_rfl) (by kernel_rfl) (by kernel_rfl) (fun w' h => ld_n h) (fun _ _ _ h => h) P0 ?_
    refine iz_take 1 (some 9) (.int .u64 c) (by kernel_rfl) (by kernel_rfl) (by kernel_rfl) (fun _ _ => by kernel_rfl) (fun _ _ _ h => h) P0 ?_
    refine iz_call 2 (some 10) 22 #[.int .u64 c] (by kernel_rfl) (by kernel_rfl) (by kernel_rfl) (wOf hcr.1 hcr.2) ?_
    rintro e' w3 ⟨a3, k3, d3, rfl, N3, hk3, B3⟩
    refine ⟨_, rfl, P0.keep B3, ?_⟩
    refine iz_call 3 (some 11) 21 #[.slice a k d, .slice a3 k3 d3] (by kernel_rfl) (by kernel_rfl) (by kernel_rfl) (wAdd (Q0.keep B3).w.o.a N3.o.a (by omega) (by omega)) ?_
    rintro e' w4 ⟨a4, k4, d4, rfl, N4, hk4, B4⟩
    have P4 := (P0.keep B3).keep B4
    refine ⟨_, rfl, P4, ?_⟩
    refine iz_last (w4.setCell ⟨w1.heap.size, 0, none⟩ (.slice a4 k4 d4)) (by kernel_rfl) (by kernel_rfl) (run_sn 3 11 (by kernel_rfl) (by kernel_rfl) (by kernel_rfl) P4) ?_
    refine iz_done (by kernel_rfl) ?_
    simp only [Act.put, List.setIfInBounds_toArray, List.set_cons_zero, List.set_cons_succ]
    have hC : Chg (· = w1.heap.size) w4 (w4.setCell ⟨w1.heap.size, 0, none⟩ (.slice a4 k4 d4)) := (Chg.refl (fun x => x = w1.heap.size) w4).cell (.inl (by rfl)) _
    have S6 := P4.setCell (i := 0) (.slice a4 k4 d4)
    have B34 := joinB (joinB (belowD W2) B3) B4
    have s3 := B3.size
    have s4 := B4.size
    have sD : W2.drew.heap.size = W2.heap.size := rfl
    have s2 := hb2.size
    have N5 : SumA w4 w.heap.size w1.heap.size a4 k4 d4 ((accs E).take (i + 1)).sum := by
      rw [List.take_add_one, hc, List.sum_append]
      simpa using (sum_of N4 (t := w1.heap.size) (by omega)).low (B' := w.heap.size) (by omega)
    refine ⟨(KeepsT.of B34).trans ⟨hC.size, fun k o hk h0 _ => (hC.same k (lt_of_block h0) (by omega)).trans h0⟩, ?_, ?_, a4, k4, d4, S6, N5.off (fun b _ hn hl => hC.same b hl hn), by omega⟩
    · exact ((hT2.chg.trans (Chg.of (F := fun _ => False) (joinB hb2 B34)) (fun _ _ h => h.elim))).trans hC (fun b _ h => .inr h)
    · have hq := (hT2.sa.keep (joinB hb2 B34)).chg hC (fun b e hk => by have e' : b = w1.heap.size := e; have := hKt b hk; omega) (fun b e cs kk => by
        have e' : b = w1.heap.size := e
        subst e'
        exact absurd (kk.eq P4).2 (by decide))
      rw [show x0 + 1 + (i + 1) = x0 + 1 + i + 1 by omega]
      exact hq
  · rintro D' W' hD hK hT
    obtain ⟨a, k, d, h1, h2, h3⟩ := hT.out
    have h1c := h1.cell (i := 0) rfl
    have R3 := Rec.put hK rfl hD (.deferred none)
    have hT3 := hT.rcd R3
    have HH2 := hid3 h2
    clear h2
    gi_wp2
    refine ⟨by simp, .inl ⟨_, _, rfl, run_takeDeferred hK, ?_⟩⟩
    refine ⟨_, results_tmp rfl _ _ _, a, k, d, rfl, ?_, h3, hT3.sa, ?_⟩
    · have := (HH2.out.cel R3.cel).w
      rwa [List.take_length] at this
    · exact (Chg.of (F := (· = g)) HB.out).trans hT3.chg (fun b hl e => e.elim id (fun e => by omega))
  · rintro D' c i W' hD hK hiN h
    exact h.elim
end Bk
end Go.Proofs.YtfpclhjmfpfhiaaGreat
namespace Go.Proofs.YtfpclhjmfpfhiaaGreat
namespace Bk
open Go.RowKit Go.Lib Pg Lim Kv
attribute [local go_sem] Oper.semAt_some
set_option maxHeartbeats 2000000 in
set_option maxRecDepth 100000 in
theorem coins_mk {w:World} {p:Option Addr}:Calls Tryz.prog 41 #[.pointer p] w fun e w'=>e=.returned (.func (.func 67) #[] #[.pointer (some ⟨w.heap.size,0,none⟩)])/\Blk w' w.heap.size [.pointer p] 24/\Below w.heap.size w w':=by
 have b1:=below_alloc w (.cells #[.pointer p] 24)
 have c1:=blk_new w [.pointer p] 24
 go_enter Tryz.func41,Tryz.ntmps41
 go_wp2
 go_ret
 exact ⟨rfl,c1,b1⟩
structure SumE (B:Nat) (w:World) (K:Nat->Prop) (g:Nat) (E:Ents) (W:List Ents) (n N:Nat) (e:Ending) (w':World):Prop where
 ex:∃ a k d,e=.returned (.slice a k d)/\Rc.NatW w' w.heap.size a k d (accs E).sum/\k<=2 * (accs E).length + 1/\Sx B w' K g E W (n + 1 + (accs E).length) N/\Chg (· = g) w w'
set_option maxHeartbeats 2000000 in
set_option maxRecDepth 100000 in
theorem sum_any {B:Nat} {w:World} {K:Nat->Prop} {g:Nat} {E:Ents} {W:List Ents} {n N:Nat} (h:Sx B w K g E W n N) (hN:N<=100000000) (hx:n + N<=2000000000000000000):Calls Tryz.prog 19 #[.pointer (some ⟨g,0,none⟩)] w (SumE B w K g E W n N):=by
 have HS:=hid3 h
 clear h
 go_enter Tryz.func19,Tryz.ntmps19
 go_wp2_with first
  | (go_at_call 41; go_must (refine coins_mk.mono ?_); rintro e w1 ⟨rfl,c1,B1⟩; have tT:=total_any (HS.out.sa.keep B1) c1 hN hx)
  | (go_at_call 40; go_must (refine tT.mono ?_); rintro e w2 ⟨a,k,d,rfl,N2,hk,S2,C2⟩; clear tT)
 go_ret
 exact ⟨a,k,d,rfl,N2.low B1.size,hk,⟨S2,Nat.le_trans HS.out.lo (Nat.le_trans B1.size C2.size),HS.out.kb⟩,(Chg.of B1).trans C2 (fun _ _ h=>h)⟩
end Bk
end Go.Proofs.YtfpclhjmfpfhiaaGreat
namespace Go.Proofs.YtfpclhjmfpfhiaaGreat
namespace Bk
open Go.RowKit Go.Lib Pg Lim Gl Kv
attribute [local go_sem] Oper.semAt_some
theorem snewX {w:World}:Calls Tryz.prog 7 #[] w fun e w'=>∃ g K,e=.returned (pg g)/\Sx w.heap.size w' K g [] [] 0 0/\(∀ b,K b->w.heap.size<=b)/\Below w.heap.size w w':=by
 refine snew.mono ?_
 rintro e w' ⟨g,K,rfl,S,hK,B⟩
 exact ⟨g,K,rfl,⟨S.mono (fun _ _ h=>h.elim),B.size,hK⟩,hK,B⟩
section
variable {B:Nat} {w:World} {K:Nat->Prop} {g:Nat} {E E':Ents} {W:List Ents} {n N P:Nat} {args:Array Value} {r r':Value}
theorem SxF.cast (h:Calls Tryz.prog P args w (SxF B w K g E W n N r)) (hE:E=E') (hr:r=r'):Calls Tryz.prog P args w (SxF B w K g E' W n N r'):=by subst hE hr; exact h
theorem SxE.cast (h:Calls Tryz.prog P args w (SxE B w K g E W n N r)) (hr:r=r'):Calls Tryz.prog P args w (SxE B w K g E W n N r'):=by subst hr; exact h
theorem dumpL {m:Nat} (h:Sx B w K g E W n N) (hN:N<=100000000) (hm:E.length=m):Calls Tryz.prog 17 #[pg g] w fun e w'=>∃ a c,e=.returned (.slice a m c)/\Below w.heap.size w w':=by
 refine (sdump h.sa hN).mono ?_
 rintro e w' ⟨v,es,rfl,P,he,B⟩
 obtain ⟨a,c,rfl⟩:=P.shape
 have hl:es.length=m:=by rw [<- hm,<- he,List.length_map]
 rw [hl]
 exact ⟨a,c,rfl,B⟩
end
theorem nat5 {w:World} {B b k d:Nat} {a:Option Addr} {x:Int} (h:Rc.NatW w B a k d x) (X:Blk w b [.int .u64 5] 31) (hx:x=5) (hk:k<=1000):Calls Tryz.prog 18 #[.slice a k d,sg 1 b] w fun e w'=>e=.returned (.bool true)/\Below w.heap.size w w':=by
 subst hx
 have O5:NatO w (some ⟨b,0,none⟩) 1 1 5:=⟨b,0,[5],rfl,Nat.le_refl _,by refine ⟨fun y hy => ?_,by rfl,by decide⟩; simp at hy; subst hy; decide,⟨.inr rfl,fun i hi=>by
  obtain rfl:i=0:=by simp at hi; omega
  exact X.cell (i:=0) rfl⟩⟩
 have t:=nSame h.o O5 (by omega) (by omega)
 simpa using t
def kE1:Ents:=mintE [] 16 5
def kE2:Ents:=moveE kE1 16 17 5
def kE3:Ents:=bumpE kE2 16
theorem k3len:(accs kE3).length=2:=by kernel_rfl
set_option maxRecDepth 100000
set_option maxHeartbeats 2000000
set_option linter.unusedVariables false
theorem known9 {w:World}:Calls Tryz.prog 6 #[] w fun e w'=>e=.returned (.bool true)/\Below w.heap.size w w':=by
 refine gc_enter (n:=68) Tryz.func6 rfl (by kernel_rfl) (by kernel_rfl) ?_
 refine gc_seq ?_
 refine gc_reg ?_
 refine t 0 (.bool false) ?_
 refine gl_nil ?_
 refine ge_then ?_
 refine gc_seq ?_
 refine gc_reg ?_
 refine tc 4 7 #[] (snewX) ?_
 rintro _ v1 ⟨g0,K0,rfl,S0,hK0,B0⟩
 refine ⟨_,rfl,?_⟩
 have A:=S0.at
 clear S0
 refine t 1 (pg g0) ?_
 refine gl_nil ?_
 refine ge_then ?_
 refine gc_seq ?_
 refine gc_seq ?_
 refine gc_reg ?_
 refine t 5 (pg g0) ?_
 refine t 6 (.bool false) ?_
 refine gl_nil ?_
 refine ge_then ?_
 refine gc_no ?_
 refine gc_skip ?_
 refine ge_then ?_
 refine gc_seq ?_
 refine gc_reg ?_
 refine t 7 (pg g0) ?_
 refine tc 8 8 #[pg g0,.int .u64 16,.int .u64 5] (SxF.cast (E':=kE1) (r':=.int .i64 0) (mint_any (k:=5) (id:=16) A.sx (by decide) (by decide) (by omega) (by omega)) (by kernel_rfl) (by kernel_rfl)) ?_
 rintro _ v5 ⟨rfl,K2,n3,N4,S,qn3,qN4,hK,hC⟩
 refine ⟨_,rfl,?_⟩
 replace A:=A.op S hK hC
 clear S hK hC
 refine t 2 (.int .i64 0) ?_
 refine gl_nil ?_
 refine ge_then ?_
 refine gc_seq ?_
 refine gc_reg ?_
 refine t 9 (pg g0) ?_
 refine tc 10 10 #[pg g0,.int .u64 16,.int .u64 17,.int .u64 5] (SxF.cast (E':=kE2) (r':=.int .i64 0) (move_any (k:=5) (a:=16) (b:=17) A.sx (by decide) (by decide) (by decide) (by omega) (by omega)) (by kernel_rfl) (by kernel_rfl)) ?_
 rintro _ v9 ⟨rfl,K6,n7,N8,S,qn7,qN8,hK,hC⟩
 refine ⟨_,rfl,?_⟩
 replace A:=A.op S hK hC
 clear S hK hC
 refine t 3 (.int .i64 0) ?_
 refine gl_nil ?_
 refine ge_then ?_
 refine gc_seq ?_
 refine gc_seq ?_
 refine gc_reg ?_
 refine t 11 (.int .i64 0) ?_
 refine t 12 (.int .i64 0) ?_
 refine t 13 (.int .i64 0) ?_
 refine t 14 (.bool false) ?_
 refine t 15 (.bool false) ?_
 refine t 16 (pg g0) ?_
 refine tc 17 17 #[pg g0] (dumpL (m:=1) A.sx (by omega) (by kernel_rfl)) ?_
 rintro _ v11 ⟨da10,da10c,rfl,B⟩
 refine ⟨_,rfl,?_⟩
 replace A:=A.keep B
 clear B
 refine t 18 (.int .i64 1) ?_
 refine t 19 (.bool false) ?_
 refine t 20 (.bool false) ?_
 refine t 21 (.bool false) ?_
 refine t 22 (pg g0) ?_
 refine tc 23 14 #[pg g0,.int .u64 17] (SxE.cast (r':=.agg #[.int .u64 5,.int .u64 0]) (get_any (id:=17) A.sx (by decide) (by omega) (by omega)) (by kernel_rfl)) ?_
 rintro _ v13 ⟨rfl,K12,S,hK,hC⟩
 refine ⟨_,rfl,?_⟩
 replace A:=A.op S hK hC
 clear S hK hC
 refine t 24 (.agg #[.int .u64 5,.int .u64 0]) ?_
 refine t 25 (.bool false) ?_
 refine t 26 (.bool false) ?_
 refine t 27 (.bool false) ?_
 refine t 28 (pg g0) ?_
 refine tc 29 10 #[pg g0,.int .u64 17,.int .u64 16,.int .u64 6] (SxF.cast (E':=kE2) (r':=.int .i64 90) (move_any (k:=6) (a:=17) (b:=16) A.sx (by decide) (by decide) (by decide) (by omega) (by omega)) (by kernel_rfl) (by kernel_rfl)) ?_
 rintro _ v17 ⟨rfl,K14,n15,N16,S,qn15,qN16,hK,hC⟩
 refine ⟨_,rfl,?_⟩
 replace A:=A.op S hK hC
 clear S hK hC
 refine t 30 (.bool false) ?_
 refine t 31 (.bool false) ?_
 refine t 32 (.bool false) ?_
 refine t 33 (pg g0) ?_
 refine tc 34 10 #[pg g0,.int .u64 17,.int .u64 17,.int .u64 5] (SxF.cast (E':=kE2) (r':=.int .i64 0) (move_any (k:=5) (a:=17) (b:=17) A.sx (by decide) (by decide) (by decide) (by omega) (by omega)) (by kernel_rfl) (by kernel_rfl)) ?_
 rintro _ v21 ⟨rfl,K18,n19,N20,S,qn19,qN20,hK,hC⟩
 refine ⟨_,rfl,?_⟩
 replace A:=A.op S hK hC
 clear S hK hC
 refine t 35 (.bool false) ?_
 refine t 36 (.bool false) ?_
 refine t 37 (.bool false) ?_
 refine t 38 (pg g0) ?_
 refine tc 39 8 #[pg g0,.int .u64 5,.int .u64 1] (SxF.cast (E':=kE2) (r':=.int .i64 92) (mint_any (k:=1) (id:=5) A.sx (by decide) (by decide) (by omega) (by omega)) (by kernel_rfl) (by kernel_rfl)) ?_
 rintro _ v25 ⟨rfl,K22,n23,N24,S,qn23,qN24,hK,hC⟩
 refine ⟨_,rfl,?_⟩
 replace A:=A.op S hK hC
 clear S hK hC
 refine t 40 (.bool false) ?_
 refine t 41 (.bool false) ?_
 refine t 42 (.bool false) ?_
 refine t 43 (pg g0) ?_
 refine tc 44 8 #[pg g0,.int .u64 17,.int .u64 1000000000000000000] (SxF.cast (E':=kE2) (r':=.int .i64 91) (mint_any (k:=1000000000000000000) (id:=17) A.sx (by decide) (by decide) (by omega) (by omega)) (by kernel_rfl) (by kernel_rfl)) ?_
 rintro _ v29 ⟨rfl,K26,n27,N28,S,qn27,qN28,hK,hC⟩
 refine ⟨_,rfl,?_⟩
 replace A:=A.op S hK hC
 clear S hK hC
 refine t 45 (.bool false) ?_
 refine t 46 (.bool false) ?_
 refine gl_nil ?_
 refine ge_then ?_
 refine gc_fr [(0,.bool false),(1,pg g0),(46,.bool false)] (by kernel_rfl) ?_
 refine gc_no ?_
 refine gc_skip ?_
 refine ge_then ?_
 refine gc_seq ?_
 refine gc_reg ?_
 refine t 47 (pg g0) ?_
 refine tc 48 12 #[pg g0,.int .u64 16] (SxF.cast (E':=kE3) (r':=.int .i64 0) (bump_any (id:=16) A.sx (by decide) (by omega) (by omega)) (by kernel_rfl) (by kernel_rfl)) ?_
 rintro _ v33 ⟨rfl,K30,n31,N32,S,qn31,qN32,hK,hC⟩
 refine ⟨_,rfl,?_⟩
 replace A:=A.op S hK hC
 clear S hK hC
 refine t 49 (.bool true) ?_
 refine t 50 (.bool true) ?_
 refine t 51 (pg g0) ?_
 refine tc 52 14 #[pg g0,.int .u64 16] (SxE.cast (r':=.agg #[.int .u64 0,.int .u64 1]) (get_any (id:=16) A.sx (by decide) (by omega) (by omega)) (by kernel_rfl)) ?_
 rintro _ v35 ⟨rfl,K34,S,hK,hC⟩
 refine ⟨_,rfl,?_⟩
 replace A:=A.op S hK hC
 clear S hK hC
 refine t 53 (.agg #[.int .u64 0,.int .u64 1]) ?_
 refine t 54 (.bool true) ?_
 refine t 55 (.bool true) ?_
 refine t 56 (.bool true) ?_
 refine t 57 (pg g0) ?_
 refine tc 58 19 #[pg g0] (sum_any A.sx (by omega) (by omega)) ?_
 rintro _ v37 ⟨sa36,sa36k,sa36d,rfl,Osa36,hsa36,S,C⟩
 refine ⟨_,rfl,?_⟩
 have hC:=C.mono (fun b _ (e:b=g0)=>e▸A.sx.sa.top)
 replace A:=A.op S (fun _ h=>.inl h) hC
 clear S hC C
 refine ta 59 [.int .u64 5] 31 (sg 1) ?_
 intro v38 g39 Xg39 hg39 B
 have zg39:=Nat.le_trans A.size hg39
 have nXg39:=A.new hg39
 replace A:=A.keep B
 replace Osa36:=Rc.NatW.keep Osa36 B
 clear B
 refine tc 60 18 #[.slice sa36 sa36k sa36d,sg 1 g39] (nat5 Osa36 Xg39 (by kernel_rfl) (by rw [k3len] at hsa36; omega)) ?_
 rintro _ v40 ⟨rfl,B⟩
 refine ⟨_,rfl,?_⟩
 replace A:=A.keep B
 replace Osa36:=Rc.NatW.keep Osa36 B
 replace Xg39:=Xg39.keep B
 clear B
 clear Osa36
 refine t 61 (.bool true) ?_
 refine t 62 (.bool true) ?_
 refine t 63 (pg g0) ?_
 refine tc 64 17 #[pg g0] (dumpL (m:=2) A.sx (by omega) (by kernel_rfl)) ?_
 rintro _ v42 ⟨da41,da41c,rfl,B⟩
 refine ⟨_,rfl,?_⟩
 replace A:=A.keep B
 replace Xg39:=Xg39.keep B
 clear B
 refine t 65 (.int .i64 2) ?_
 refine t 66 (.bool true) ?_
 refine t 67 (.bool true) ?_
 refine t 0 (.bool true) ?_
 refine gl_nil ?_
 refine ge_then ?_
 refine gc_fr [(0,.bool true)] (by kernel_rfl) ?_
 refine gc_ret ?_
 refine ge_ret (.bool true) (rs1 0 (by kernel_rfl) (by kernel_rfl)) ?_
 exact ⟨rfl,((Chg.of (F:=fun _=>False) B0).trans A.cc (fun b hl hk=>by have:=hK0 b hk; omega)).nothing⟩
end Bk
end Go.Proofs.YtfpclhjmfpfhiaaGreat
namespace Go.Proofs.YtfpclhjmfpfhiaaGreat
namespace Kv
open Go.RowKit Go.Lib Pg
attribute [local go_sem] Oper.semAt_some
theorem under_bytes:Tryz.prog.underlying 71=some (.slice 5):=by kernel_rfl
theorem size_al (w:World) (o:Obj):(w.alloc o).heap.size=w.heap.size + 1:=by
 show (w.heap.push o).size=_
 rw [Array.size_push]
end Kv
end Go.Proofs.YtfpclhjmfpfhiaaGreat
namespace Go.Proofs.YtfpclhjmfpfhiaaGreat
namespace Kv
open Go.RowKit Go.Lib Pg
attribute [local go_sem] Oper.semAt_some
structure Ste where
 what:Int
 num:Int
 ka:Option Addr
 kc:Nat
 kl:List Int
 va:Option Addr
 vc:Nat
 vl:List Int
def Ste.kv (s:Ste):Value:=.slice s.ka s.kl.length s.kc
def Ste.vv (s:Ste):Value:=.slice s.va s.vl.length s.vc
structure SteA (w:World) (s:Ste):Prop where
 w1 : -9223372036854775808<=s.what
 w2:s.what<=9223372036854775807
 n1 : -9223372036854775808<=s.num
 n2:s.num<=9223372036854775807
 k:By w s.kv s.kl
 kb:s.kl.length<=140737488355328
 v:By w s.vv s.vl
 vb:s.vl.length<=140737488355328
theorem SteA.keep {w w':World} {s:Ste} (h:SteA w s) (hb:Below w.heap.size w w'):SteA w' s:=⟨h.w1,h.w2,h.n1,h.n2,h.k.keep hb,h.kb,h.v.keep hb,h.vb⟩
structure SteC (w:World) (b o:Nat) (s:Ste):Prop where
 c0:w.cell? ⟨b,o,none⟩=some (.int .i64 s.what)
 c1:w.cell? ⟨b,o + 1,none⟩=some (.int .i64 s.num)
 c2:w.cell? ⟨b,o + 2,none⟩=some s.kv
 c3:w.cell? ⟨b,o + 3,none⟩=some s.vv
theorem SteC.keep {w w':World} {b o:Nat} {s:Ste} (h:SteC w b o s) (hb:Below w.heap.size w w'):SteC w' b o s:=by
 have k:∀ {q:Nat} {v:Value},w.cell? ⟨b,q,none⟩=some v->w'.cell? ⟨b,q,none⟩=some v:=fun {q v} hc=>by
  have hlt:=cell_lt hc
  rw [World.cell?_of_block (w:=w) (hb.block b hlt)]
  exact hc
 exact ⟨k h.c0,k h.c1,k h.c2,k h.c3⟩
structure StesA (w:World) (ao:Option Addr) (n:Nat) (ss:List Ste):Prop where
 len:ss.length=n
 le:n<=9223372036854775807
 get:∀ i s,ss[i]? = some s->∃ b o,ao=some ⟨b,o,none⟩/\SteC w b (o + i * 4) s/\SteA w s
theorem StesA.keep {w w':World} {ao:Option Addr} {n:Nat} {ss:List Ste} (h:StesA w ao n ss) (hb:Below w.heap.size w w'):StesA w' ao n ss :=
 ⟨h.len,h.le,fun i s hs=>by
  obtain ⟨b,o,h1,h2,h3⟩:=h.get i s hs
  exact ⟨b,o,h1,h2.keep hb,h3.keep hb⟩⟩
theorem StesA.at {w:World} {ao:Option Addr} {n:Nat} {ss:List Ste} (h:StesA w ao n ss) {i:Nat} (hi:i < n):∃ s b o,ss[i]? = some s/\ao=some ⟨b,o,none⟩/\SteC w b (o + i * 4) s/\SteA w s:=by
 have hl:=h.len
 have e:ss[i]? = some ss[i]:=List.getElem?_eq_getElem (by omega)
 obtain ⟨b,o,h1,h2,h3⟩:=h.get i _ e
 exact ⟨_,b,o,e,h1,h2,h3⟩
end Kv
end Go.Proofs.YtfpclhjmfpfhiaaGreat
namespace Go.Proofs.YtfpclhjmfpfhiaaGreat
namespace Kv
open Go.RowKit Go.Lib Pg
attribute [local go_sem] Oper.semAt_some
theorem belowD' (w:World):Below w.heap.size w w.drew:=⟨rfl,rfl,rfl,Nat.le_refl _,fun _ _=>rfl⟩
structure KB (w0 w:World) (f:Fm) (g:Nat) (E:Ents) (W:List Ents) (B:Nat):Prop where
 ex:∃ n N,Kn w0 w f g E W n N/\n<=10 * B/\N<=2 * B
def setd (E:Ents) (k v:List Int):Ents:=if setE k v=0 then put E k v else E
theorem KB.keep {w0 w:World} {f:Fm} {g:Nat} {E:Ents} {W:List Ents} {B:Nat} (h:KB w0 w f g E W B) {w':World} (hb:Below w.heap.size w w'):KB w0 w' f g E W B:=by
 obtain ⟨n,N,h,h1,h2⟩:=h.ex
 exact ⟨n,N,h.keep hb,h1,h2⟩
theorem KB.drew {w0 w:World} {f:Fm} {g:Nat} {E:Ents} {W:List Ents} {B:Nat} (h:KB w0 w f g E W B):KB w0 w.drew f g E W B:=h.keep (belowD' w)
theorem KB.below {w0 w:World} {f:Fm} {g:Nat} {E:Ents} {W:List Ents} {B:Nat} (h:KB w0 w f g E W B):Below w0.heap.size w0 w:=by
 obtain ⟨n,N,h,h1,h2⟩:=h.ex
 exact h.below
theorem KB.more {w0 w:World} {f:Fm} {g:Nat} {E:Ents} {W:List Ents} {B:Nat} {B':Nat} (h:KB w0 w f g E W B) (hB:B<=B'):KB w0 w f g E W B':=by
 obtain ⟨n,N,h,h1,h2⟩:=h.ex
 exact ⟨n,N,h,by omega,by omega⟩
theorem KB.rise {w0 w:World} {f:Fm} {g:Nat} {E:Ents} {W:List Ents} {B:Nat} (h:KB w0 w f g E W B):Rise E:=by
 obtain ⟨n,N,h,h1,h2⟩:=h.ex
 exact h.rise
theorem KB.size {w0 w:World} {f:Fm} {g:Nat} {E:Ents} {W:List Ents} {B:Nat} (h:KB w0 w f g E W B):E.length<=2 * B:=by
 obtain ⟨n,N,h,h1,h2⟩:=h.ex
 have:=h.size
 omega
theorem KB.small {w0 w:World} {f:Fm} {g:Nat} {E:Ents} {W:List Ents} {B:Nat} (h:KB w0 w f g E W B):∀ x∈E,x.1.length<=1000000000/\x.2.length<=1000000000:=by
 obtain ⟨n,N,h,h1,h2⟩:=h.ex
 obtain ⟨K,h⟩:=h.ex
 exact h.sa.small
structure FinR (w0:World) (f:Fm) (g:Nat) (E:Ents) (W:List Ents) (B:Nat) (F:Ents) (e:Ending) (w':World):Prop where
 ex:∃ ao n c,e=.returned (.slice ao n c)/\KB w0 w' (f.pr (.slice ao n c) F) g E W B
def chgd (E:Ents) (what:Int) (k v:List Int):Ents:=if what.tmod 2=0 then setd E k v else rem E k
end Kv
end Go.Proofs.YtfpclhjmfpfhiaaGreat
namespace Go.Proofs.YtfpclhjmfpfhiaaGreat
namespace Kv
open Go.RowKit Go.Lib Pg
structure K2 (w0 w:World) (f:Fm) (g:Nat) (E:Ents) (W:List Ents) (g2:Nat) (E2:Ents) (W2:List Ents) (B:Nat):Prop where
 ex:∃ n2 N2,KB w0 w (f.st ⟨g2,E2,W2,n2,N2⟩) g E W B/\n2<=10 * B/\N2<=2 * B
theorem K2.keep {w0 w w':World} {f:Fm} {g g2:Nat} {E E2:Ents} {W W2:List Ents} {B:Nat} (h:K2 w0 w f g E W g2 E2 W2 B) (hb:Below w.heap.size w w'):K2 w0 w' f g E W g2 E2 W2 B:=by
 obtain ⟨n2,N2,h,h1,h2⟩:=h.ex
 exact ⟨n2,N2,h.keep hb,h1,h2⟩
theorem K2.drew {w0 w:World} {f:Fm} {g g2:Nat} {E E2:Ents} {W W2:List Ents} {B:Nat} (h:K2 w0 w f g E W g2 E2 W2 B):K2 w0 w.drew f g E W g2 E2 W2 B:=h.keep (belowD' w)
theorem K2.below {w0 w:World} {f:Fm} {g g2:Nat} {E E2:Ents} {W W2:List Ents} {B:Nat} (h:K2 w0 w f g E W g2 E2 W2 B):Below w0.heap.size w0 w:=by
 obtain ⟨n2,N2,h,h1,h2⟩:=h.ex
 exact h.below
theorem K2.more {w0 w:World} {f:Fm} {g g2:Nat} {E E2:Ents} {W W2:List Ents} {B B':Nat} (h:K2 w0 w f g E W g2 E2 W2 B) (hB:B<=B'):K2 w0 w f g E W g2 E2 W2 B':=by
 obtain ⟨n2,N2,h,h1,h2⟩:=h.ex
 exact ⟨n2,N2,h.more hB,by omega,by omega⟩
theorem K2.size {w0 w:World} {f:Fm} {g g2:Nat} {E E2:Ents} {W W2:List Ents} {B:Nat} (h:K2 w0 w f g E W g2 E2 W2 B):E.length<=2 * B:=by
 obtain ⟨n2,N2,h,h1,h2⟩:=h.ex
 exact h.size
theorem K2.small {w0 w:World} {f:Fm} {g g2:Nat} {E E2:Ents} {W W2:List Ents} {B:Nat} (h:K2 w0 w f g E W g2 E2 W2 B):∀ x∈E,x.1.length<=1000000000/\x.2.length<=1000000000:=by
 obtain ⟨n2,N2,h,h1,h2⟩:=h.ex
 exact h.small
end Kv
end Go.Proofs.YtfpclhjmfpfhiaaGreat
namespace Go.Proofs.YtfpclhjmfpfhiaaGreat
namespace Kv
open Go.RowKit Go.Lib Pg
theorem Kn.drop {w0 w:World} {f:Fm} {g:Nat} {E:Ents} {W:List Ents} {n N:Nat} {v:Value} {l:List Int} (h:Kn w0 w (f.by v l) g E W n N):Kn w0 w f g E W n N:=by
 obtain ⟨K,h⟩:=h.ex
 exact ⟨K,h.sa,h.kz,fun p hp=>h.bys p (List.mem_cons_of_mem _ hp),h.prs,h.oth,h.bel⟩
theorem K2.drop {w0 w:World} {f:Fm} {g g2:Nat} {E E2:Ents} {W W2:List Ents} {B:Nat} {v:Value} {l:List Int} (h:K2 w0 w (f.by v l) g E W g2 E2 W2 B):K2 w0 w f g E W g2 E2 W2 B:=by
 obtain ⟨n2,N2,h,h1,h2⟩:=h.ex
 obtain ⟨n,N,h,h3,h4⟩:=h.ex
 exact ⟨n2,N2,⟨n,N,Kn.drop (v:=v) (l:=l) h,h3,h4⟩,h1,h2⟩
end Kv
end Go.Proofs.YtfpclhjmfpfhiaaGreat
namespace Go.Proofs.YtfpclhjmfpfhiaaGreat
namespace Kv
open Go.RowKit Go.Lib Pg
theorem look_skip {X Y:Ents} {k v x:List Int} (h:¬ k=x):look (X ++ (k,v) :: Y) x=look (X ++ Y) x:=by
 unfold look
 rw [List.find?_append,List.find?_append,List.find?_cons]
 simp [h]
theorem look_put {E:Ents} (h:Rise E) (k v x:List Int):look (put E k v) x=if k=x then some v else look E x:=by
 obtain ⟨X,Y,c,⟨rfl,_⟩ | ⟨y,rfl,_⟩⟩:=h.cut k
 ·rw [c.put0]
  split
  ·rename_i e; subst e; exact c.look1
  ·rename_i e; exact look_skip e
 ·rw [c.put1]
  split
  ·rename_i e; subst e; exact c.look1
  ·rename_i e; rw [look_skip e,look_skip e]
theorem look_rem {E:Ents} (h:Rise E) (k x:List Int):look (rem E k) x=if k=x then none else look E x:=by
 obtain ⟨X,Y,c,⟨rfl,_⟩ | ⟨y,rfl,_⟩⟩:=h.cut k
 ·rw [c.rem0]
  split
  ·rename_i e; subst e; exact c.look0
  ·rfl
 ·rw [c.rem1]
  split
  ·rename_i e; subst e; exact c.look0
  ·rename_i e; rw [look_skip e]
abbrev good (s:Ste):Prop:=¬ s.what.tmod 2=0\/(1<=s.kl.length/\s.kl.length<=64/\s.vl.length<=4096)
def run (ss : List Ste) : Nat → Ents
  | 0 => []
  | j + 1 => match ss[j]? with
    | some s => chgd (run ss j) s.what s.kl s.vl
    | none => run ss j
theorem KB.drop {w0 w:World} {f:Fm} {g:Nat} {E:Ents} {W:List Ents} {B:Nat} {v:Value} {l:List Int} (h:KB w0 w (f.by v l) g E W B):KB w0 w f g E W B:=by
 obtain ⟨n,N,h,h3,h4⟩:=h.ex
 exact ⟨n,N,h.drop,h3,h4⟩
end Kv
end Go.Proofs.YtfpclhjmfpfhiaaGreat
namespace Go.Proofs.YtfpclhjmfpfhiaaGreat
namespace Bk
open Go.RowKit Go.Lib Pg Lim Kv
def U64 (x:Int):Prop:=0<=x/\x < 18446744073709551616
theorem ak_inj {a b:Int} (ha:U64 a) (hb:U64 b) (h:ak a=ak b):a=b:=by
 have e:∀ c,Ky.mkE ((4:Nat):Int) c 0=false:=fun c=>by
  unfold Ky.mkE
  rw [show (Ky.frm ((4:Nat):Int)).1=9 from rfl]
  simp
 exact (Ky.mk_inj (k:=4) (o:=4) (by decide) (by decide) (by decide) (by decide) ha (by decide) hb (by decide) (e a) (e b) h).2.1
theorem ak_pre (id:Int):[97] <+: ak id:=by
 unfold ak
 rw [Ky.mk_eq (k:=4) (n:=9) (m0:=97) (m1:=0) rfl]
 simp
theorem coinB_nil:coinB []=0:=by kernel_rfl
theorem seqB_nil:seqB []=0:=by kernel_rfl
def AllA (E:Ents):Prop:=∀ e∈E,[97] <+: e.1
theorem AllA.lay {E:Ents} (h:AllA E) (id x y:Int):AllA (layE E id x y):=by
 intro e he
 unfold layE at he
 split at he
 ·exact h e (rem_mem he)
 ·rcases put_mem he with h1 | rfl
  ·exact h e h1
  ·exact ak_pre id
theorem rise_lay {E:Ents} (h:Rise E) (id x y:Int):Rise (layE E id x y):=by
 unfold layE
 split
 ·exact h.rem _
 ·exact h.put _ _
section
variable {E:Ents} {id j x y:Int}
theorem look_lay (h:Rise E) (hid:U64 id) (hj:U64 j):Kv.look (layE E id x y) (ak j)=if id=j then (if x=0/\y=0 then none else some (pv x y)) else Kv.look E (ak j):=by
 have e:(ak id=ak j)<->id=j:=⟨ak_inj hid hj,fun e=>by rw [e]⟩
 unfold layE
 split
 ·rw [look_rem h]
  simp only [e]
 ·rw [look_put h]
  simp only [e]
theorem coin_lay (h:Rise E) (hid:U64 id) (hj:U64 j) (hx:U64 x) (hy:U64 y):coin (layE E id x y) j=if id=j then x else coin E j:=by
 unfold coin
 rw [look_lay h hid hj]
 split
 ·split
  ·rename_i c; rw [c.1]; exact coinB_nil
  ·exact (pv_back hx hy).1
 ·rfl
theorem seqn_lay (h:Rise E) (hid:U64 id) (hj:U64 j) (hx:U64 x) (hy:U64 y):seqn (layE E id x y) j=if id=j then y else seqn E j:=by
 unfold seqn
 rw [look_lay h hid hj]
 split
 ·split
  ·rename_i c; rw [c.2]; exact seqB_nil
  ·exact (pv_back hx hy).2
 ·rfl
theorem accs_all (h:AllA E):accs E=E.map (fun x=>coinB x.2):=by
 unfold accs
 rw [filter_id (fun e he=>decide_eq_true (h e he))]
theorem sum_lay (h:Rise E) (hA:AllA E) (hx:U64 x) (hy:U64 y):(accs (layE E id x y)).sum=(accs E).sum - coin E id + x:=by
 rw [accs_all (hA.lay id x y),accs_all hA]
 unfold layE coin
 have hp:=(pv_back hx hy).1
 obtain ⟨X,Y,c,⟨rfl,hl⟩ | ⟨v0,rfl,hl⟩⟩:=h.cut (ak id)
 ·rw [hl]
  have z:coinB ((none:Option (List Int)).getD [])=0:=coinB_nil
  rw [z]
  split
  ·rename_i e
   rw [c.rem0,e.1]
   omega
  ·rw [c.put0]
   simp only [List.map_append,List.map_cons,List.sum_append,List.sum_cons,hp]
   omega
 ·rw [hl]
  have z:coinB ((some v0:Option (List Int)).getD [])=coinB v0:=rfl
  rw [z]
  split
  ·rename_i e
   rw [c.rem1,e.1]
   simp only [List.map_append,List.map_cons,List.sum_append,List.sum_cons]
   omega
  ·rw [c.put1]
   simp only [List.map_append,List.map_cons,List.sum_append,List.sum_cons,hp]
   omega
end
structure Ok (E:Ents):Prop where
 rise:Rise E
 all:AllA E
 cr:∀ j,U64 (coin E j)
 sr:∀ j,U64 (seqn E j)
section
variable {E:Ents} {id a b k:Int}
theorem mint_no (h:mintR E id k≠0):mintE E id k=E:=if_neg h
theorem mint_yes (h:mintR E id k=0):mintE E id k=layE E id (coin E id + k) (seqn E id)/\holdsP (coin E id) k:=by
 refine ⟨if_pos h,?_⟩
 unfold mintR at h
 by_cases h1:isA id
 ·by_cases h2:holdsP (coin E id) k
  ·exact h2
  ·simp [h1,h2] at h
 ·simp [h1] at h
theorem mint_sum (o:Ok E) (hk:U64 k) (h:mintR E id k=0):(accs (mintE E id k)).sum=(accs E).sum + k:=by
 obtain ⟨e,hh⟩:=mint_yes h
 have c:=o.cr id
 unfold U64 at *
 unfold holdsP at hh
 rw [e,sum_lay o.rise o.all ⟨by omega,by omega⟩ (o.sr id)]
 omega
theorem mint_all (h:AllA E):AllA (mintE E id k):=by unfold mintE; split; exact h.lay _ _ _; exact h
theorem move_no (h:moveR E a b k≠0):moveE E a b k=E:=if_neg (fun c=>h c.1)
theorem move_same (h:a=b):moveE E a b k=E:=if_neg (fun c=>c.2 h)
theorem move_yes (h:moveR E a b k=0) (hab:a≠b):moveE E a b k=layE (layE E a (coin E a - k) (seqn E a)) b (coin E b + k) (seqn E b)/\k<=coin E a/\holdsP (coin E b) k:=by
 refine ⟨if_pos ⟨h,hab⟩,?_⟩
 unfold moveR at h
 by_cases h1:¬ isA a\/¬ isA b
 ·rw [if_pos h1] at h; simp at h
 ·rw [if_neg h1] at h
  by_cases h2:coin E a < k
  ·rw [if_pos h2] at h; simp at h
  ·rw [if_neg h2,if_neg hab] at h
   by_cases h3:holdsP (coin E b) k
   ·exact ⟨by omega,h3⟩
   ·rw [if_pos h3] at h; simp at h
theorem move_90 (h:moveR E a b k=90):coin E a < k:=by
 unfold moveR at h
 by_cases h1:¬ isA a\/¬ isA b
 ·rw [if_pos h1] at h; simp at h
 ·rw [if_neg h1] at h
  by_cases h2:coin E a < k
  ·exact h2
  ·rw [if_neg h2] at h
   split at h
   ·simp at h
   ·split at h<;>simp at h
theorem move_at (o:Ok E) (ha:U64 a) (hb:U64 b) (hk:U64 k) (h:moveR E a b k=0) (hab:a≠b):coin (moveE E a b k) a=coin E a - k/\coin (moveE E a b k) b=coin E b + k/\seqn (moveE E a b k) a=seqn E a/\seqn (moveE E a b k) b=seqn E b/\(accs (moveE E a b k)).sum=(accs E).sum/\k<=coin E a/\coin E b + k<=1000000000000000000:=by
 obtain ⟨e,h1,h2⟩:=move_yes h hab
 have ca:=o.cr a
 have cb:=o.cr b
 have sa:=o.sr a
 have sb:=o.sr b
 unfold holdsP at h2
 have x1:U64 (coin E a - k):=by unfold U64 at *; omega
 have x2:U64 (coin E b + k):=by unfold U64 at *; omega
 have r1:=rise_lay o.rise a (coin E a - k) (seqn E a)
 have q:coin (layE E a (coin E a - k) (seqn E a)) b=coin E b:=by rw [coin_lay o.rise ha hb x1 sa,if_neg hab]
 have ba:¬ b=a:=fun e=>hab e.symm
 rw [e]
 refine ⟨?_,?_,?_,?_,?_,h1,by omega⟩
 ·rw [coin_lay r1 hb ha x2 sb,if_neg ba,coin_lay o.rise ha ha x1 sa,if_pos rfl]
 ·rw [coin_lay r1 hb hb x2 sb,if_pos rfl]
 ·rw [seqn_lay r1 hb ha x2 sb,if_neg ba,seqn_lay o.rise ha ha x1 sa,if_pos rfl]
 ·rw [seqn_lay r1 hb hb x2 sb,if_pos rfl]
 ·rw [sum_lay r1 (o.all.lay _ _ _) x2 sb,q,sum_lay o.rise o.all x1 sa]
  omega
theorem move_all (h:AllA E):AllA (moveE E a b k):=by unfold moveE; split; exact (h.lay _ _ _).lay _ _ _; exact h
theorem move_sum (o:Ok E) (ha:U64 a) (hb:U64 b) (hk:U64 k):(accs (moveE E a b k)).sum=(accs E).sum:=by
 by_cases h:moveR E a b k=0
 ·by_cases hab:a=b
  ·rw [move_same hab]
  ·exact (move_at o ha hb hk h hab).2.2.2.2.1
 ·rw [move_no h]
theorem bump_no (h:bumpR id≠0):bumpE E id=E:=by
 unfold bumpR at h
 unfold bumpE
 by_cases h1:isA id
 ·simp [h1] at h
 ·rw [if_neg h1]
theorem bump_all (h:AllA E):AllA (bumpE E id):=by unfold bumpE; split; exact h.lay _ _ _; exact h
theorem bump_yes (h:bumpR id=0):bumpE E id=layE E id (coin E id) ((seqn E id + 1) % 18446744073709551616):=by
 unfold bumpR at h
 unfold bumpE
 by_cases h1:isA id
 ·rw [if_pos h1]
 ·simp [h1] at h
theorem mod_u (z:Int):U64 (z % 18446744073709551616):=⟨Int.emod_nonneg _ (by decide),Int.emod_lt_of_pos _ (by decide)⟩
theorem bump_at (o:Ok E) (hid:U64 id) (h:bumpR id=0):coin (bumpE E id) id=coin E id/\seqn (bumpE E id) id=(seqn E id + 1) % 18446744073709551616:=by
 rw [bump_yes h,coin_lay o.rise hid hid (o.cr id) (mod_u _),seqn_lay o.rise hid hid (o.cr id) (mod_u _)]
 simp
theorem bump_sum (o:Ok E):(accs (bumpE E id)).sum=(accs E).sum:=by
 by_cases h:bumpR id=0
 ·rw [bump_yes h,sum_lay o.rise o.all (o.cr id) (mod_u _)]
  omega
 ·rw [bump_no h]
end
end Bk
end Go.Proofs.YtfpclhjmfpfhiaaGreat
namespace Go.Proofs.YtfpclhjmfpfhiaaGreat
namespace Bk
open Go.RowKit Go.Lib Pg Lim Gl Kv
attribute [local go_sem] Oper.semAt_some
structure StpA (w:World) (ao:Option Addr) (n b o:Nat) (sw sa sb sn:Nat->Int):Prop where
 ptr:0 < n->ao=some ⟨b,o,none⟩
 cell:∀ i,i < n->w.cell? ⟨b,o + i * 4,none⟩=some (.int .i64 (sw i))/\w.cell? ⟨b,o + i * 4 + 1,none⟩=some (.int .u64 (sa i))/\w.cell? ⟨b,o + i * 4 + 2,none⟩=some (.int .u64 (sb i))/\w.cell? ⟨b,o + i * 4 + 3,none⟩=some (.int .u64 (sn i))
 rng:∀ i,i < n->U64 (sa i)/\U64 (sb i)/\U64 (sn i)
 few:n<=9223372036854775807
theorem cellB {w W:World} {b o:Nat} {v:Value} (B:Below w.heap.size w W) (h:w.cell? ⟨b,o,none⟩=some v):W.cell? ⟨b,o,none⟩=some v:=by
 rw [World.cell?_of_block (w:=w) (B.block b (cell_lt h))]; exact h
theorem run_ixa {P:Program} {ρ:Operand->Value} {o:Oper} {w:World} {ao:Option Addr} (sz b off n c k:Nat) (hk:k < n) (hao:0 < n->ao=some ⟨b,off,none⟩) (ho:∃ T x y,o.op=.indexAddr T x y/\slT P T sz=true/\ρ x=.slice ao n c/\ρ y=.int .i64 (k:Int):=by exact ⟨_,_,_,rfl,by kernel_rfl,by kernel_rfl,by kernel_rfl⟩):(execOp ρ o).run P w=.ok (.value (.pointer (some ⟨b,off + k * sz,none⟩))) w:=by
 rw [hao (by omega)] at ho
 exact run_ixs sz b off n c k hk ho
theorem ld_step {w:World} {g o:Nat} {a b c d:Value} (c0:w.cell? ⟨g,o,none⟩=some a) (c1:w.cell? ⟨g,o + 1,none⟩=some b) (c2:w.cell? ⟨g,o + 2,none⟩=some c) (c3:w.cell? ⟨g,o + 3,none⟩=some d):(loadVar 33 ⟨g,o,none⟩).run Tryz.prog w=.ok (.agg #[a,b,c,d]) w:=by go_simp
theorem run_lds {ρ:Operand->Value} {o:Oper} {w W:World} {b off n k:Nat} {ao:Option Addr} {sw sa sb sn:Nat->Int} (S:StpA w ao n b off sw sa sb sn) (hk:k < n) (B:Below w.heap.size w W) (ho:∃ p,o.op=.load 33 p/\ρ p=.pointer (some ⟨b,off + k * 4,none⟩):=by exact ⟨_,rfl,by kernel_rfl⟩):(execOp ρ o).run Tryz.prog W=.ok (.value (.agg #[.int .i64 (sw k),.int .u64 (sa k),.int .u64 (sb k),.int .u64 (sn k)])) W:=by
 obtain ⟨p,h,hp⟩:=ho
 obtain ⟨c0,c1,c2,c3⟩:=S.cell k hk
 have:=ld_step (cellB B c0) (cellB B c1) (cellB B c2) (cellB B c3)
 simp only [execOp,h,hp]
 simp [Instr.loadAt,Instr.sureAddr,Result.andThen,this]
theorem belowO {w V V':World} {K:Nat->Prop} (h:Below w.heap.size w V) (hC:Chg K V V') (hk:∀ b,K b->w.heap.size<=b):Below w.heap.size w V' :=
 ((Chg.of (F:=fun _=>False) h).trans hC (fun b hl hb=>by have:=hk b hb; omega)).nothing
structure Zn (K:Nat->Prop) (n0:Nat) (wz V:World):Prop where
 ext:Ext n0 wz V
 off:∀ b,n0<=b->b < wz.heap.size->¬ K b
section
variable {K K':Nat->Prop} {n0:Nat} {wz V V':World}
theorem Zn.keep (h:Zn K n0 wz V) (hb:Below V.heap.size V V'):Zn K n0 wz V':=⟨h.ext.keep hb,h.off⟩
theorem Zn.drew (h:Zn K n0 wz V):Zn K n0 wz V.drew:=h.keep (Below.refl _ _).drew
theorem Zn.cell {x:Nat} (h:Zn K n0 wz V) (C:Chg (· = x) V V') (hx:x < n0\/wz.heap.size<=x):Zn K n0 wz V' :=
 ⟨⟨fun b h1 h2=>(C.same b (Nat.lt_of_lt_of_le h2 h.ext.2) (fun e=>by have e':b=x:=e; omega)).trans (h.ext.1 b h1 h2),Nat.le_trans h.ext.2 C.size⟩,h.off⟩
theorem Zn.op (h:Zn K n0 wz V) (hC:Chg K V V') (hK:∀ b,K' b->K b\/V.heap.size<=b):Zn K' n0 wz V' :=
 ⟨⟨fun b h1 h2=>(hC.same b (Nat.lt_of_lt_of_le h2 h.ext.2) (h.off b h1 h2)).trans (h.ext.1 b h1 h2),Nat.le_trans h.ext.2 hC.size⟩,fun b h1 h2 hk=>(hK b hk).elim (h.off b h1 h2) (fun h3=>by have:=h.ext.2; omega)⟩
theorem Zn.sum (h:Zn K n0 wz V) (hC:Chg K V V'):Zn K n0 wz V':=h.op hC (fun _ h=>.inl h)
theorem zn_new (_hb:Below V.heap.size V V') (hk:∀ b,K b->b < V.heap.size):Zn K V.heap.size V' V':=⟨⟨fun _ _ _=>rfl,Nat.le_refl _⟩,fun b h1 _ hb2=>by have:=hk b hb2; omega⟩
theorem Zn.nat {a:Option Addr} {k d:Nat} {x:Int} (h:Zn K n0 wz V) (hn:Rc.NatW wz n0 a k d x):Rc.NatW V n0 a k d x:=hn.off h.ext.2 (fun b h1 h2=>h.ext.1 b h1 h2)
theorem Zn.prs {v:Value} {es:List En} (h:Zn K n0 wz V) (hp:PrA wz n0 v es):PrA V n0 v es :=
 ⟨hp.ex.imp id (fun ⟨b,c,e,hl,hR⟩=>⟨b,c,e,hl,hR.same (h.ext.1 b hl hR.lt)⟩),fun e he=>(hp.ents e he).same fun b h1 h2=>h.ext.1 b h2 h1⟩
end
section
variable {B:Nat} {w:World} {K:Nat->Prop} {g:Nat} {E:Ents} {W:List Ents} {n N:Nat}
theorem Sx.ok (h:Sx B w K g E W n N) (ha:AllA E):Ok E:=⟨h.sa.rise,ha,h.crng,h.srng⟩
theorem Sx.few (h:Sx B w K g E W n N):(accs E).length<=N:=Nat.le_trans (by unfold accs; rw [List.length_map]; exact List.length_filter_le _ _) h.sa.size
theorem dumpZ (h:Sx B w K g E W n N) (hN:N<=100000000):Calls Tryz.prog 17 #[pg g] w fun e w'=>∃ v es,e=.returned v/\PrA w' w.heap.size v es/\es.map En.kl2=E/\Zn K w.heap.size w' w'/\Below w.heap.size w w':=by
 refine (sdump h.sa hN).mono ?_
 rintro e w' ⟨v,es,rfl,P,he,B⟩
 exact ⟨v,es,rfl,P,he,zn_new B (fun b hb=>h.sa.lt hb),B⟩
theorem pairsT {n1 n2:Nat} {E2:Ents} {u v:Value} {a b:List En} (h:Sx B w K g E W n N) (hN:N<=100000000) (ha:PrA w n1 u a) (hb:PrA w n2 v b) (ea:a.map En.kl2=E) (eb:b.map En.kl2=E2) (e:E2=E):Calls Tryz.prog 16 #[u,v] w fun e w'=>e=.returned (.bool true)/\Below w.heap.size w w':=by
 subst e
 refine pairs_same ha hb (ea.trans eb.symm) (fun x hx => ?_) ?_
 ·exact h.sa.small (x.kl,x.vl) (by rw [<- ea]; exact List.mem_map.2 ⟨x,hx,rfl⟩)
 ·have h1:=h.sa.size
  rw [<- ea,List.length_map] at h1
  omega
theorem natT {n1 n2:Nat} {a a':Option Addr} {k d k' d':Nat} {x y:Int} (h:Rc.NatW w n1 a k d x) (h':Rc.NatW w n2 a' k' d' y) (hn:k<=4398046511104) (hn':k'<=4398046511104) (e:x=y) :
  Calls Tryz.prog 18 #[.slice a k d,.slice a' k' d'] w fun e w'=>e=.returned (.bool true)/\Below w.heap.size w w':=by
 have:=nSame h.o h'.o hn hn'
 rw [decide_eq_true e] at this
 exact this
end
theorem zn_nil {K:Nat->Prop} {V:World}:Zn K V.heap.size V V:=⟨⟨fun _ _ _=>rfl,Nat.le_refl _⟩,fun b h1 h2=>by omega⟩
theorem run_nq {ρ:Operand->Value} {w:World} {o:Oper} {x y x' y':Int} (h1:x=x') (h2:y=y') (ho:∃ u v,o.op=.binOp .neq 42 u v 42/\ρ u=.agg #[.int .u64 x,.int .u64 y]/\ρ v=.agg #[.int .u64 x',.int .u64 y']:=by exact ⟨_,_,rfl,by kernel_rfl,by kernel_rfl⟩):(execOp ρ o).run Tryz.prog w=.ok (.value (.bool false)) w:=by
 obtain ⟨u,v,h,e1,e2⟩:=ho
 subst h1 h2
 simp only [execOp,h,e1,e2]
 go_simp
end Bk
end Go.Proofs.YtfpclhjmfpfhiaaGreat
namespace Go.Proofs.YtfpclhjmfpfhiaaGreat
namespace Bk
open Go.RowKit Go.Lib Pg Lim Kv
attribute [local go_sem] Oper.semAt_some
theorem look_cons (x:KV) (E:Ents) (k:List Int):Kv.look (x :: E) k=if x.1=k then some x.2 else Kv.look E k:=by
 unfold Kv.look
 rw [List.find?_cons]
 by_cases h:x.1=k<;>simp [h]
theorem rise_ext:∀ {E F:Ents},Rise E->Rise F->(∀ k,Kv.look E k=Kv.look F k)->E=F
 | [],[],_,_,_=>rfl
 | [],y :: F,_,_,h=>by
  have:=h y.1
  rw [look_cons,if_pos rfl] at this
  exact absurd this (by simp [Kv.look])
 | x :: E,[],_,_,h=>by
  have:=h x.1
  rw [look_cons,if_pos rfl] at this
  exact absurd this (by simp [Kv.look])
 | x :: E,y :: F,hE,hF,h=>by
  unfold Rise at hE hF
  rw [List.pairwise_cons] at hE hF
  have nE:∀ k,¬ Lt x.1 k->Kv.look E k=none:=fun k hk=>look_no (fun z hz e=>hk (e▸hE.1 z hz))
  have nF:∀ k,¬ Lt y.1 k->Kv.look F k=none:=fun k hk=>look_no (fun z hz e=>hk (e▸hF.1 z hz))
  have key:x.1=y.1:=by
   rcases lt_tri x.1 y.1 with hl | he | hg
   ·have q:=h x.1
    rw [look_cons,if_pos rfl,look_cons,if_neg (fun e=>by rw [e] at hl; exact lt_irrefl _ hl),nF x.1 hl.not] at q
    cases q
   ·exact he
   ·have q:=h y.1
    rw [look_cons y,if_pos rfl,look_cons,if_neg (fun e=>by rw [e] at hg; exact lt_irrefl _ hg),nE y.1 hg.not] at q
    cases q
  have val:x.2=y.2:=by
   have q:=h x.1
   rw [look_cons,if_pos rfl,look_cons,if_pos key.symm] at q
   exact Option.some.inj q
  have tail:E=F:=rise_ext hE.2 hF.2 (fun k=>by
   have q:=h k
   rw [look_cons,look_cons,<- key] at q
   by_cases e:x.1=k
   ·subst e
    rw [nE x.1 (lt_irrefl _),nF x.1 (by rw [key]; exact lt_irrefl _)]
   ·rwa [if_neg e,if_neg e] at q)
  rw [tail,Prod.ext key val]
def ent (x y:Int):Option (List Int):=if x=0/\y=0 then none else some (pv x y)
theorem lay_look {E:Ents} (h:Rise E) (id x y:Int) (k:List Int):Kv.look (layE E id x y) k=if ak id=k then ent x y else Kv.look E k:=by
 unfold layE ent
 split
 ·rw [look_rem h]
 ·rw [look_put h]
structure Can (E:Ents):Prop where
 ok:Ok E
 one:∀ j,U64 j->Kv.look E (ak j)=ent (coin E j) (seqn E j)
 cap:∀ j,U64 j->coin E j<=1000000000000000000
theorem can_nil:Can []:=by
 have c:∀ j,coin [] j=0:=fun j=>coinB_nil
 have s:∀ j,seqn [] j=0:=fun j=>seqB_nil
 refine ⟨⟨List.Pairwise.nil,fun e h=>by simp at h,fun j=>by rw [c]; exact ⟨by decide,by decide⟩,fun j=>by rw [s]; exact ⟨by decide,by decide⟩⟩,fun j _ => ?_,fun j _=>by rw [c]; decide⟩
 rw [c,s]
 rfl
theorem can_lay {E:Ents} {id x y:Int} (h:Can E) (ho:Ok (layE E id x y)) (hid:U64 id) (hx:U64 x) (hy:U64 y) (hm:x<=1000000000000000000):Can (layE E id x y):=by
 refine ⟨ho,fun j hj => ?_,fun j hj => ?_⟩
 ·rw [coin_lay h.ok.rise hid hj hx hy,seqn_lay h.ok.rise hid hj hx hy,lay_look h.ok.rise]
  by_cases e:id=j
  ·subst e
   rw [if_pos rfl,if_pos rfl,if_pos rfl]
  ·rw [if_neg e,if_neg e,if_neg (fun q=>e (ak_inj hid hj q)),h.one j hj]
 ·rw [coin_lay h.ok.rise hid hj hx hy]
  split
  ·exact hm
  ·exact h.cap j hj
theorem can_mint {E:Ents} {id k:Int} (h:Can E) (ho:Ok (mintE E id k)) (hid:U64 id) (hk:U64 k):Can (mintE E id k):=by
 by_cases e:mintR E id k=0
 ·obtain ⟨q,hh⟩:=mint_yes e
  rw [q] at ho ⊢
  have c:=h.ok.cr id
  unfold holdsP at hh
  exact can_lay h ho hid (by unfold U64 at *; omega) (h.ok.sr id) (by omega)
 ·rw [mint_no e]
  exact h
section
variable {E:Ents} {a b n m:Int}
theorem move_two (h:Can E) (ha:U64 a) (hb:U64 b) (hn:0<=n/\n<=1000000000000000000) (hm:0<=m/\m<=1000000000000000000) (hab:a≠b) (e:moveR E a b n=0) (f:moveR (moveE E a b n) a b m=0) :
  moveR E a b (n + m)=0/\moveE (moveE E a b n) a b m=moveE E a b (n + m)/\moveR (moveE E a b (n + m)) b a (n + m)=0/\moveE (moveE E a b (n + m)) b a (n + m)=E:=by
 have un:U64 n:=by unfold U64; omega
 have um:U64 m:=by unfold U64; omega
 have us:U64 (n + m):=by unfold U64; omega
 obtain ⟨q1,h1,g1⟩:=move_yes e hab
 obtain ⟨c1,c2,c3,c4,_,_,_⟩:=move_at h.ok ha hb un e hab
 obtain ⟨q2,h2,g2⟩:=move_yes f hab
 rw [c1] at h2
 rw [c2] at g2
 unfold holdsP at g1 g2
 have hA:isA a/\isA b:=by
  unfold moveR at e
  by_cases z:¬ isA a\/¬ isA b
  ·rw [if_pos z] at e; simp at e
  ·exact ⟨Classical.byContradiction fun q=>z (.inl q),Classical.byContradiction fun q=>z (.inr q)⟩
 have r0:moveR E a b (n + m)=0:=by
  unfold moveR
  rw [if_neg (by simp [hA.1,hA.2]),if_neg (by omega),if_neg hab,if_neg (by unfold holdsP; omega)]
 obtain ⟨q3,h3,g3⟩:=move_yes r0 hab
 obtain ⟨d1,d2,d3,d4,_,_,_⟩:=move_at h.ok ha hb us r0 hab
 have ca:=h.ok.cr a
 have cb:=h.ok.cr b
 have cap:=h.cap a ha
 unfold U64 at ca cb
 have r:=h.ok.rise
 have hba:b≠a:=fun q=>hab q.symm
 have kab:¬ ak a=ak b:=fun q=>hab (ak_inj ha hb q)
 have R1:=rise_lay (rise_lay r a (coin E a - n) (seqn E a)) b (coin E b + n) (seqn E b)
 have R3:=rise_lay (rise_lay r a (coin E a - (n + m)) (seqn E a)) b (coin E b + (n + m)) (seqn E b)
 have r1:moveR (moveE E a b (n + m)) b a (n + m)=0:=by
  unfold moveR
  rw [if_neg (by simp [hA.1,hA.2]),d2,if_neg (by omega),if_neg hba,d1,if_neg (by unfold holdsP; omega)]
 refine ⟨r0,?_,r1,?_⟩
 ·rw [q2,c1,c2,c3,c4,q1,q3]
  refine rise_ext (rise_lay (rise_lay R1 _ _ _) _ _ _) R3 (fun k => ?_)
  rw [lay_look (rise_lay R1 _ _ _),lay_look R1,lay_look (rise_lay r _ _ _),lay_look r,lay_look (rise_lay r _ _ _),lay_look r]
  rw [show coin E a - n - m=coin E a - (n + m) by omega,show coin E b + n + m=coin E b + (n + m) by omega]
  by_cases k1:ak b=k
  ·simp [k1]
  ·by_cases k2:ak a=k
   ·simp [k1,k2]
   ·simp [k1,k2]
 ·obtain ⟨q4,_,_⟩:=move_yes r1 hba
  rw [q4,d1,d2,d3,d4,q3]
  refine rise_ext (rise_lay (rise_lay R3 _ _ _) _ _ _) r (fun k => ?_)
  rw [lay_look (rise_lay R3 _ _ _),lay_look R3,lay_look (rise_lay r _ _ _),lay_look r]
  rw [show coin E a - (n + m) + (n + m)=coin E a by omega,show coin E b + (n + m) - (n + m)=coin E b by omega]
  by_cases k1:ak a=k
  ·subst k1
   rw [if_pos rfl,h.one a ha]
  ·by_cases k2:ak b=k
   ·subst k2
    rw [if_neg k1,if_pos rfl,h.one b hb]
   ·simp [k1,k2]
theorem moveR_rng:0<=moveR E a b n/\moveR E a b n<=92:=by
 unfold moveR
 repeat' split
 all_goals decide
end
section
variable {B:Nat} {w w':World} {K K' K2:Nat->Prop} {g g2:Nat} {E E2:Ents} {W W2:List Ents} {n N n2 N2:Nat}
theorem copyX (h:Sx B w K g E W n N) (hN:N<=100000000):Calls Tryz.prog 23 #[Gl.pg g] w fun e w'=>∃ g' K',e=.returned (Gl.pg g')/\Sx B w' K' g' E [] 0 N/\(∀ b,K' b->w.heap.size<=b)/\Below w.heap.size w w':=by
 refine (scopy h.sa hN).mono ?_
 rintro e w' ⟨g',K',rfl,S,hK,B⟩
 exact ⟨g',K',rfl,⟨S,Nat.le_trans h.lo B.size,fun b hb=>Nat.le_trans h.lo (hK b hb)⟩,hK,B⟩
theorem Sx.beside (c:Sx B w K2 g2 E2 W2 n2 N2) (s:Sx B w K g E W n N) (hC:Chg K w w') (dj:∀ b,K b->¬ K2 b):Sx B w' K2 g2 E2 W2 n2 N2 :=
 ⟨c.sa.chg hC dj (fun _ hb cs=>s.sa.noU hb cs),Nat.le_trans c.lo hC.size,c.kb⟩
theorem dj_op (c:Sx B w K2 g2 E2 W2 n2 N2) (dj:∀ b,K b->¬ K2 b) (hK:∀ b,K' b->K b\/w.heap.size<=b):∀ b,K' b->¬ K2 b:=fun b hb h2=>(hK b hb).elim (fun h=>dj b h h2) (fun h=>by have:=c.sa.lt h2; omega)
theorem dj_sym (dj:∀ b,K b->¬ K2 b):∀ b,K2 b->¬ K b:=fun b h2 h=>dj b h h2
end
theorem Zn.both {K K2:Nat->Prop} {n0:Nat} {wz V V':World} (h:Zn K n0 wz V') (c:Zn K2 n0 wz V):Zn K2 n0 wz V':=⟨h.ext,c.off⟩
theorem zn_copy {K K2:Nat->Prop} {n0:Nat} {wz V:World} (h:Zn K n0 wz V) (hk:∀ b,K2 b->V.heap.size<=b):Zn K2 n0 wz V:=⟨h.ext,fun b _ h2 hb=>by have:=hk b hb; have:=h.ext.2; omega⟩
theorem ld_u {w:World} {g o:Nat} {v:Value} (c:w.cell? ⟨g,o,none⟩=some v):(loadVar 31 ⟨g,o,none⟩).run Tryz.prog w=.ok v w:=by go_simp
theorem ld_i {w:World} {g o:Nat} {v:Value} (c:w.cell? ⟨g,o,none⟩=some v):(loadVar 3 ⟨g,o,none⟩).run Tryz.prog w=.ok v w:=by go_simp
theorem run_ldu {ρ:Operand->Value} {o:Oper} {w:World} {b off:Nat} {v:Value} (hc:w.cell? ⟨b,off,none⟩=some v) (ho:∃ p,o.op=.load 31 p/\ρ p=.pointer (some ⟨b,off,none⟩):=by exact ⟨_,rfl,by kernel_rfl⟩):(execOp ρ o).run Tryz.prog w=.ok (.value v) w:=by
 obtain ⟨p,h,hp⟩:=ho
 have:=ld_u hc
 simp only [execOp,h,hp]
 simp [Instr.loadAt,Instr.sureAddr,Result.andThen,this]
theorem run_ldi {ρ:Operand->Value} {o:Oper} {w:World} {b off:Nat} {v:Value} (hc:w.cell? ⟨b,off,none⟩=some v) (ho:∃ p,o.op=.load 3 p/\ρ p=.pointer (some ⟨b,off,none⟩):=by exact ⟨_,rfl,by kernel_rfl⟩):(execOp ρ o).run Tryz.prog w=.ok (.value v) w:=by
 obtain ⟨p,h,hp⟩:=ho
 have:=ld_i hc
 simp only [execOp,h,hp]
 simp [Instr.loadAt,Instr.sureAddr,Result.andThen,this]
theorem run_rm {ρ:Operand->Value} {o:Oper} {w:World} {x r:Int} (hx:0<=x/\x < 18446744073709551616) (hr:x % 1000000000000000001=r) (ho:∃ p,o.op=.binOp .rem 31 p (.const (.int .u64 1000000000000000001)) 31/\ρ p=.int .u64 x/\ρ (.const (.int .u64 1000000000000000001))=.int .u64 1000000000000000001:=by exact ⟨_,rfl,by kernel_rfl,by kernel_rfl⟩):(execOp ρ o).run Tryz.prog w=.ok (.value (.int .u64 r)) w:=by
 obtain ⟨p,h,hp,hq⟩:=ho
 subst hr
 have e:x.tmod 1000000000000000001=x % 1000000000000000001:=Int.tmod_eq_emod_of_nonneg hx.1
 have h1:0<=x % 1000000000000000001:=Int.emod_nonneg _ (by decide)
 have h2:x % 1000000000000000001 < 1000000000000000001:=Int.emod_lt_of_pos _ (by decide)
 have h3:x % 1000000000000000001 % 18446744073709551616=x % 1000000000000000001:=Int.emod_eq_of_lt h1 (by omega)
 simp only [execOp,h,hp,hq]
 go_simp
end Bk
end Go.Proofs.YtfpclhjmfpfhiaaGreat
