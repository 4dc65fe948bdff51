/- Several texts, joined: LgM, LgN. -/
import Derived.Test.YtlbndpkdkdgggaaGreatDoorJpc
import Derived.Test.YtlbndpkdkdgggaaGreatDoorJrr
set_option maxRecDepth 100000
set_option maxHeartbeats 8000000
namespace Go.Proofs.YtlbndpkdkdgggaaGreatDoor
section
namespace Lg
open Go.RowKit Go.Lib Lim Pg Gl
theorem un_kn {E:Nat->E8} {n:Nat} (h:Un (sO E n)):Kn E n:=by
 induction n with
 | zero=>intro i j hi; omega
 | succ n ih =>
  unfold Un at h
  simp only [sO] at h
  rw [List.pairwise_append] at h
  have k:=ih h.1
  intro i j hi hj e1 e2
  rcases Nat.lt_or_ge i n with h1 | h1<;>rcases Nat.lt_or_ge j n with h2 | h2
  ·exact k i j h1 h2 e1 e2
  ·obtain rfl:j=n:=by omega
   exact absurd (by simp [e1,e2]) (h.2.2 _ (sO_mem.2 ⟨i,h1,rfl⟩) _ (List.mem_singleton.2 rfl))
  ·obtain rfl:i=n:=by omega
   exact absurd (by simp [e1,e2]) (h.2.2 _ (sO_mem.2 ⟨j,h2,rfl⟩) _ (List.mem_singleton.2 rfl))
  ·omega
def Rm (w:World) (g:Nat) (K:Nat->Prop) (S:St):Prop:=∃ b ao n c zz E,Blk w g [.slice ao n c] 30/\Ry w b ao n c zz E/\S=sO E n/\Un S/\K=KF g b c
section
variable {w w':World} {g:Nat} {K F:Nat->Prop} {S:St}
theorem Rm.keep (M:Rm w g K S) (B:Below w.heap.size w w'):Rm w' g K S:=by
 obtain ⟨b,ao,n,c,zz,E,X,Y,h1,h2,h3⟩:=M
 exact ⟨b,ao,n,c,zz,E,X.keep B,Y.keep B,h1,h2,h3⟩
theorem Rm.drew (M:Rm w g K S):Rm w.drew g K S:=M.keep (Below.refl _ _).drew
theorem Rm.lt (M:Rm w g K S) {q:Nat} (h:K q):q < w.heap.size:=by
 obtain ⟨b,ao,n,c,zz,E,X,Y,h1,h2,rfl⟩:=M
 rcases h with rfl | ⟨k,rfl⟩
 ·exact X.lt
 ·exact (Y.blk k).lt
theorem Rm.off (M:Rm w g K S) (C:Chg F w w') (P:Lp w w') (h:∀ b,K b->¬ F b):Rm w' g K S:=by
 obtain ⟨b,ao,n,c,zz,E,X,Y,h1,h2,rfl⟩:=M
 exact ⟨b,ao,n,c,zz,E,X.chg C (h g (.inl rfl)),Y.off C P (fun k=>h b (.inr ⟨k,rfl⟩)),h1,h2,rfl⟩
end
theorem Rm.new {w:World} {g:Nat} (X:Blk w g [.slice none 0 0] 30):Rm w g (fun q=>q=g) [] :=
 ⟨0,none,0,0,0,fun _=>⟨0,0,(none,0,0,none,0,0),(none,0,0,none,0,0),0,0,0,0⟩,X,⟨rfl,fun _=>rfl,fun h=>absurd h (by decide),fun h=>absurd h (by decide),fun i h=>absurd h (Nat.not_lt_zero i),fun i h=>absurd h (Nat.not_lt_zero i)⟩,rfl,List.Pairwise.nil,funext fun q=>by simp⟩
theorem fnd (E:Nat->E8) (n:Nat) (v d:Int):(∀ j,j < n->¬ ((E j).v=v/\(E j).d=d))\/∃ i,i < n/\((E i).v=v/\(E i).d=d)/\∀ j,j < i->¬ ((E j).v=v/\(E j).d=d):=by
 induction n with
 | zero=>exact .inl fun j h=>absurd h (Nat.not_lt_zero j)
 | succ n ih =>
  rcases ih with h | ⟨i,h1,h2,h3⟩
  ·by_cases k:(E n).v=v/\(E n).d=d
   ·exact .inr ⟨n,by omega,k,h⟩
   ·refine .inl fun j hj => ?_
    rcases Nat.lt_or_ge j n with h1 | h1
    ·exact h j h1
    ·obtain rfl:j=n:=by omega
     exact k
  ·exact .inr ⟨i,by omega,h2,h3⟩
theorem fs_ft {E:Nat->E8} {n L:Nat} (h:Fs (sO E n) L):∀ i,i < n->Ft (E i).r L/\Ft (E i).o L:=fun i hi=>by
 have:=h _ (sO_mem.2 ⟨i,hi,rfl⟩)
 exact ⟨this.1,this.2.1⟩
theorem hp_k {E:Nat->E8} {n:Nat} (h:∀ e∈sO E n,0<=e.2.2.2.1/\e.2.2.2.1 < 1000000/\0<=e.2.2.2.2/\e.2.2.2.2 < 1000000):∀ i,i < n->0<=(E i).p/\(E i).p < 1000000/\0<=(E i).k/\(E i).k < 1000000:=fun i hi=>h _ (sO_mem.2 ⟨i,hi,rfl⟩)
theorem mHold {w:World} {g:Nat} {K:Nat->Prop} {S:St} {v d t:Int} (hv:0<=v/\v < 18446744073709551616) (hd:0<=d/\d < 18446744073709551616) {ax:Option Addr} {nx cx:Nat} {x:Int} (Nx:∀ w',Chg K w w'->NatA w' ax nx cx x) (lx:nx<=9) {ay:Option Addr} {ny cy:Nat} {y:Int} (Ny:∀ w',Chg K w w'->NatA w' ay ny cy y) (ly:ny<=9) (ht:0<=t/\t < 18446744073709551616) (M:Rm w g K S) (hn:S.length<=100):Calls Tryz.prog 18 #[pg g,.int .u64 v,.int .u64 d,.agg #[.slice ax nx cx],.agg #[.slice ay ny cy],.int .u64 t] w fun e w'=>∃ K' v0,e=.returned v0/\Rm w' g K' (sHold S v d x y t)/\(∀ b,K' b->K b\/w.heap.size<=b)/\Chg K w w'/\Lp w w':=by
 obtain ⟨b,ao,n,c,zz,E,X,Y,rfl,hU,rfl⟩:=M
 have hn:=sO_len (E:=E) (n:=n)▸hn
 rcases fnd E n v d with hno | ⟨i0,hi,hy,hu⟩
 ·by_cases hz:y=0
  ·refine (rHold_nz hv hd Nx (by omega) Ny (by omega) ht X Y hn hno hz).mono ?_
   rintro e w' ⟨F,b2,ao2,n2,c2,zz2,v0,rfl,X',Y',hS,hb,C,P⟩
   exact ⟨_,v0,rfl,⟨b2,ao2,n2,c2,zz2,F,X',Y',hS.symm,un_hold hU,rfl⟩,fun q hq=>hq.elim (fun h=>.inl (.inl h)) (fun h=>(hb h.1).elim (fun k=>.inl (.inr ⟨k.1,h.2.trans k.2⟩)) (fun k=>.inr (h.2▸k))),C,P⟩
  ·refine (rHold_nn hv hd Nx (by omega) Ny (by omega) ht X Y hn hno hz).mono ?_
   rintro e w' ⟨F,b2,ao2,n2,c2,zz2,v0,rfl,X',Y',hS,hb,C,P⟩
   exact ⟨_,v0,rfl,⟨b2,ao2,n2,c2,zz2,F,X',Y',hS.symm,un_hold hU,rfl⟩,fun q hq=>hq.elim (fun h=>.inl (.inl h)) (fun h=>(hb h.1).elim (fun k=>.inl (.inr ⟨k.1,h.2.trans k.2⟩)) (fun k=>.inr (h.2▸k))),C,P⟩
 ·by_cases hz:y=0
  ·refine (rHold_yz hv hd Nx (by omega) Ny (by omega) ht X Y hn (un_kn hU) hi hy hu hz).mono ?_
   rintro e w' ⟨F,b2,ao2,n2,c2,zz2,v0,rfl,X',Y',hS,hb,C,P⟩
   exact ⟨_,v0,rfl,⟨b2,ao2,n2,c2,zz2,F,X',Y',hS.symm,un_hold hU,rfl⟩,fun q hq=>hq.elim (fun h=>.inl (.inl h)) (fun h=>(hb h.1).elim (fun k=>.inl (.inr ⟨k.1,h.2.trans k.2⟩)) (fun k=>.inr (h.2▸k))),C,P⟩
  ·refine (rHold_yn hv hd Nx (by omega) Ny (by omega) ht X Y hn (un_kn hU) hi hy hu hz).mono ?_
   rintro e w' ⟨F,b2,ao2,n2,c2,zz2,v0,rfl,X',Y',hS,hb,C,P⟩
   exact ⟨_,v0,rfl,⟨b2,ao2,n2,c2,zz2,F,X',Y',hS.symm,un_hold hU,rfl⟩,fun q hq=>hq.elim (fun h=>.inl (.inl h)) (fun h=>(hb h.1).elim (fun k=>.inl (.inr ⟨k.1,h.2.trans k.2⟩)) (fun k=>.inr (h.2▸k))),C,P⟩
theorem mDrop {w:World} {g:Nat} {K:Nat->Prop} {S:St} {v d:Int} (hv:0<=v/\v < 18446744073709551616) (hd:0<=d/\d < 18446744073709551616) (M:Rm w g K S) (hn:S.length<=100):Calls Tryz.prog 20 #[pg g,.int .u64 v,.int .u64 d] w fun e w'=>∃ K' v0,e=.returned v0/\Rm w' g K' (sDrop S v d)/\(∀ b,K' b->K b\/w.heap.size<=b)/\Chg K w w'/\Lp w w':=by
 obtain ⟨b,ao,n,c,zz,E,X,Y,rfl,hU,rfl⟩:=M
 have hn:=sO_len (E:=E) (n:=n)▸hn
 rcases fnd E n v d with hno | ⟨i0,hi,hy,hu⟩
 ·refine (rDrop_n hv hd X Y hn hno).mono ?_
  rintro e w' ⟨F,b2,ao2,n2,c2,zz2,v0,rfl,X',Y',hS,hb,C,P⟩
  exact ⟨_,v0,rfl,⟨b2,ao2,n2,c2,zz2,F,X',Y',hS.symm,un_drop hU,rfl⟩,fun q hq=>hq.elim (fun h=>.inl (.inl h)) (fun h=>(hb h.1).elim (fun k=>.inl (.inr ⟨k.1,h.2.trans k.2⟩)) (fun k=>.inr (h.2▸k))),C,P⟩
 ·refine (rDrop_y hv hd X Y hn (un_kn hU) hi hy hu).mono ?_
  rintro e w' ⟨F,b2,ao2,n2,c2,zz2,v0,rfl,X',Y',hS,hb,C,P⟩
  exact ⟨_,v0,rfl,⟨b2,ao2,n2,c2,zz2,F,X',Y',hS.symm,un_drop hU,rfl⟩,fun q hq=>hq.elim (fun h=>.inl (.inl h)) (fun h=>(hb h.1).elim (fun k=>.inl (.inr ⟨k.1,h.2.trans k.2⟩)) (fun k=>.inr (h.2▸k))),C,P⟩
theorem mGive {w:World} {g:Nat} {K:Nat->Prop} {S:St} {L:Nat} {v t:Int} (hv:0<=v/\v < 18446744073709551616) {ax:Option Addr} {nx cx:Nat} {x:Int} (Nx:∀ w',Chg K w w'->NatA w' ax nx cx x) (lx:nx<=9) (ht:0<=t/\t < 18446744073709551616) (M:Rm w g K S) (hL:Fs S L) (hl:L<=640000) (hn:S.length<=100):Calls Tryz.prog 13 #[pg g,.int .u64 v,.agg #[.slice ax nx cx],.int .u64 t] w fun e w'=>∃ K' v0,e=.returned v0/\Rm w' g K' (sGive S v x t)/\(∀ b,K' b->K b\/w.heap.size<=b)/\Chg K w w'/\Lp w w':=by
 obtain ⟨b,ao,n,c,zz,E,X,Y,rfl,hU,rfl⟩:=M
 have hn:=sO_len (E:=E) (n:=n)▸hn
 have N0:=Nx w (Chg.refl _ _)
 refine (rGive_ hv Nx (by omega) ht X Y hn (fs_ft hL) hl ⟨N0.nonneg,nat_lt N0 lx⟩).mono ?_
 rintro e w' ⟨F,rfl,X',Y',hS,C,P⟩
 exact ⟨_,_,rfl,⟨b,ao,n,c,zz,F,X',Y',hS.symm,un_on hU,rfl⟩,fun q hq=>.inl hq,C,P⟩
theorem mCut {w:World} {g:Nat} {K:Nat->Prop} {S:St} {L:Nat} {v y z:Int} (hv:0<=v/\v < 18446744073709551616) (hy:0<=y/\y < 18446744073709551616) (hz:0<=z/\z < 18446744073709551616) (M:Rm w g K S) (hL:Fs S L) (hl:L<=640000) (hn:S.length<=100) (hP:∀ e∈S,0<=e.2.2.2.1/\e.2.2.2.1 < 1000000/\0<=e.2.2.2.2/\e.2.2.2.2 < 1000000):Calls Tryz.prog 22 #[pg g,.int .u64 v,.int .u64 y,.int .u64 z] w fun e w'=>∃ K' v0,e=.returned v0/\Rm w' g K' (sCut S v y z)/\(∀ b,K' b->K b\/w.heap.size<=b)/\Chg K w w'/\Lp w w':=by
 obtain ⟨b,ao,n,c,zz,E,X,Y,rfl,hU,rfl⟩:=M
 have hn:=sO_len (E:=E) (n:=n)▸hn
 refine (rCut_ hv hy hz X Y hn (fs_ft hL) hl (hp_k hP)).mono ?_
 rintro e w' ⟨F,rfl,X',Y',hS,C,P⟩
 exact ⟨_,_,rfl,⟨b,ao,n,c,zz,F,X',Y',hS.symm,un_on hU,rfl⟩,fun q hq=>.inl hq,C,P⟩
theorem mSettle {w:World} {g:Nat} {K:Nat->Prop} {S:St} {L:Nat} {v d:Int} (hv:0<=v/\v < 18446744073709551616) (hd:0<=d/\d < 18446744073709551616) (M:Rm w g K S) (hL:Fs S L) (hl:L<=640000) (hn:S.length<=100) (hP:∀ e∈S,0<=e.2.2.2.1/\e.2.2.2.1 < 1000000/\0<=e.2.2.2.2/\e.2.2.2.2 < 1000000):Calls Tryz.prog 15 #[pg g,.int .u64 v,.int .u64 d] w fun e w'=>∃ a n c b m d_ K',e=.returned (.tuple #[.agg #[.slice a n c,.slice b m d_],.int .i64 (sTold (sTick S v) v d).2.1,.int .i64 (sTold (sTick S v) v d).2.2])/\RQ w' a n c b m d_ (sTold (sTick S v) v d).1/\Rm w' g K' (sClear (sTick S v) v d)/\(∀ b,K' b->K b\/w.heap.size<=b)/\Chg K w w'/\Lp w w':=by
 obtain ⟨b,ao,n,c,zz,E,X,Y,rfl,hU,rfl⟩:=M
 have hn:=sO_len (E:=E) (n:=n)▸hn
 rcases fnd E n v d with hno | ⟨i0,hi,hy,hu⟩
 ·refine (rSettle_n hv hd X Y hn (fs_ft hL) hl (hp_k hP) hno).mono ?_
  rintro e w' ⟨a,k,d_,a',k',d',F,rfl,Q,X',Y',hS,C,P⟩
  exact ⟨_,_,_,_,_,_,_,rfl,Q,⟨b,ao,n,c,zz,F,X',Y',hS.symm,un_at (un_on hU),rfl⟩,fun q hq=>.inl hq,C,P⟩
 ·refine (rSettle_y hv hd X Y hn (fs_ft hL) hl (hp_k hP) (un_kn hU) hi hy).mono ?_
  rintro e w' ⟨a,k,d_,a',k',d',F,rfl,Q,X',Y',hS,C,P⟩
  exact ⟨_,_,_,_,_,_,_,rfl,Q,⟨b,ao,n,c,zz,F,X',Y',hS.symm,un_at (un_on hU),rfl⟩,fun q hq=>.inl hq,C,P⟩
theorem mStake {w:World} {g:Nat} {K:Nat->Prop} {S:St} {v d:Int} (hv:0<=v/\v < 18446744073709551616) (hd:0<=d/\d < 18446744073709551616) (M:Rm w g K S) (hn:S.length<=100):Calls Tryz.prog 24 #[pg g,.int .u64 v,.int .u64 d] w fun e w'=>∃ a n c b m d_,e=.returned (.agg #[.slice a n c,.slice b m d_])/\RQ w' a n c b m d_ (sWorth S v d)/\Below w.heap.size w w':=by
 obtain ⟨b,ao,n,c,zz,E,X,Y,rfl,hU,rfl⟩:=M
 have hn:=sO_len (E:=E) (n:=n)▸hn
 rcases fnd E n v d with hno | ⟨i0,hi,hy,hu⟩
 ·rw [show sWorth (sO E n) v d=0 by unfold sWorth; rw [sO_no hno]]
  exact rStake_n hv hd X Y hn hno
 ·rw [show sWorth (sO E n) v d=(E i0).r by unfold sWorth; rw [sO_yes hi hy hu]]
  exact rStake_y hv hd X Y hn hi hy hu
theorem mOwed {w:World} {g:Nat} {K:Nat->Prop} {S:St} {v d:Int} (hv:0<=v/\v < 18446744073709551616) (hd:0<=d/\d < 18446744073709551616) (M:Rm w g K S) (hn:S.length<=100):Calls Tryz.prog 26 #[pg g,.int .u64 v,.int .u64 d] w fun e w'=>∃ a n c b m d_,e=.returned (.agg #[.slice a n c,.slice b m d_])/\RQ w' a n c b m d_ (sOwed S v d)/\Below w.heap.size w w':=by
 obtain ⟨b,ao,n,c,zz,E,X,Y,rfl,hU,rfl⟩:=M
 have hn:=sO_len (E:=E) (n:=n)▸hn
 rcases fnd E n v d with hno | ⟨i0,hi,hy,hu⟩
 ·rw [show sOwed (sO E n) v d=0 by unfold sOwed; rw [sO_no hno]]
  exact rOwed_n hv hd X Y hn hno
 ·rw [show sOwed (sO E n) v d=(E i0).o by unfold sOwed; rw [sO_yes hi hy hu]]
  exact rOwed_y hv hd X Y hn hi hy hu
theorem mStakes {w:World} {g:Nat} {K:Nat->Prop} {S:St} {L:Nat} {v:Int} (hv:0<=v/\v < 18446744073709551616) (M:Rm w g K S) (hL:Fs S L) (hl:L<=640000) (hn:S.length<=100):Calls Tryz.prog 28 #[pg g,.int .u64 v] w fun e w'=>∃ a n c b m d_,e=.returned (.agg #[.slice a n c,.slice b m d_])/\RQ w' a n c b m d_ (sStakes S v)/\Below w.heap.size w w':=by
 obtain ⟨b,ao,n,c,zz,E,X,Y,rfl,hU,rfl⟩:=M
 have hn:=sO_len (E:=E) (n:=n)▸hn
 rw [ps_stakes]
 exact rStakes hv X Y hn (fs_ft hL) hl
theorem mOwes {w:World} {g:Nat} {K:Nat->Prop} {S:St} {L:Nat} {v:Int} (hv:0<=v/\v < 18446744073709551616) (M:Rm w g K S) (hL:Fs S L) (hl:L<=640000) (hn:S.length<=100):Calls Tryz.prog 30 #[pg g,.int .u64 v] w fun e w'=>∃ a n c b m d_,e=.returned (.agg #[.slice a n c,.slice b m d_])/\RQ w' a n c b m d_ (sOwes S v)/\Below w.heap.size w w':=by
 obtain ⟨b,ao,n,c,zz,E,X,Y,rfl,hU,rfl⟩:=M
 have hn:=sO_len (E:=E) (n:=n)▸hn
 rw [ps_owes]
 exact rOwes hv X Y hn (fs_ft hL) hl
end Lg
end
section
namespace Lg
open Go.RowKit Go.Lib Lim Pg Gl
abbrev Gs (s:Stk) (j:Nat):Prop:=(0<=s.1/\Ft s.1 (640 + 64 * j))/\(0<=s.2.1/\Ft s.2.1 (640 + 4000 * j))/\(0<=s.2.2.1/\s.2.2.1<=j)/\(0<=s.2.2.2/\s.2.2.2<=j)
structure Gj (S:St) (j:Nat):Prop where
 len:S.length<=j
 all:∀ e∈S,Gs e.2 j
theorem Gs.up {s:Stk} {j:Nat} (h:Gs s j):Gs s (j + 1):=⟨⟨h.1.1,ft_up h.1.2 (by omega)⟩,⟨h.2.1.1,ft_up h.2.1.2 (by omega)⟩,⟨h.2.2.1.1,by have:=h.2.2.1.2; omega⟩,⟨h.2.2.2.1,by have:=h.2.2.2.2; omega⟩⟩
section
variable {S:St} {j:Nat} {v d x y t:Int}
theorem Gj.nil:Gj [] 0:=⟨Nat.le_refl _,fun e h=>absurd h (by simp)⟩
theorem Gj.up (h:Gj S j):Gj S (j + 1):=⟨by have:=h.len; omega,fun e he=>(h.all e he).up⟩
theorem Gj.map {f:(Int × Int) × Stk->(Int × Int) × Stk} {k:Nat} (h:Gj S j) (hk:j<=k) (q:∀ e,Gs e.2 j->Gs (f e).2 k):Gj (S.map f) k:=⟨by rw [List.length_map]; have:=h.len; omega,fun e he=>by
 obtain ⟨a,ha,rfl⟩:=List.mem_map.1 he
 exact q a (h.all a ha)⟩
theorem ft0 {L:Nat} (h:1<=L):0<=(0:Rat)/\Ft 0 L:=⟨Rat.le_refl,ft_up (show Ft 0 1 by decide +kernel) h⟩
theorem Gj.give (h:Gj S j) (hj:j<=40) (hx:0<=x/\x < 2 ^ (64 * 4)) (ht:0<=t/\t < 18446744073709551616):Gj (sGive S v x t) (j + 1):=h.map (by omega) fun e he=>by
 split
 ·have a:=d_ft (r:=x) ⟨hx.1,Int.lt_trans hx.2 (by decide +kernel)⟩
  have b:=q_ft (a:=1) (by decide) ht
  have c:=he.1
  have e0:=Rat.mul_nonneg a.1 c.1
  have e1:=Rat.mul_nonneg e0 b.1
  have f0:=ft_mul a.2 c.2 a.1 c.1
  have f1:=ft_mul f0 b.2 e0 b.1
  have u:=he.up
  exact ⟨u.1,⟨Rat.add_nonneg he.2.1.1 e1,ft_up (ft_add he.2.1.2 f1 he.2.1.1 e1) (by omega)⟩,u.2.2⟩
 ·exact he.up
theorem Gj.cut (h:Gj S j) (hy:0<=y/\y < 18446744073709551616) (ht:0<=t/\t < 18446744073709551616):Gj (sCut S v y t) (j + 1):=h.map (by omega) fun e he=>by
 split
 ·have b:=q_ft (a:=t) (b:=y) ht hy
  have u:=he.up
  exact ⟨⟨Rat.mul_nonneg he.1.1 b.1,ft_up (ft_mul he.1.2 b.2 he.1.1 b.1) (by omega)⟩,u.2.1,⟨by have:=he.2.2.1.1; show 0<=_ + 1; omega,by have:=he.2.2.1.2; show _ + 1<=_; omega⟩,⟨by have:=he.2.2.2.1; show 0<=_ + 1; omega,by have:=he.2.2.2.2; show _ + 1<=_; omega⟩⟩
 ·exact he.up
theorem Gj.tick (h:Gj S j):Gj (sTick S v) (j + 1):=h.map (by omega) fun e he=>by
 split
 ·have u:=he.up
  exact ⟨u.1,u.2.1,⟨by have:=he.2.2.1.1; show 0<=_ + 1; omega,by have:=he.2.2.1.2; show _ + 1<=_; omega⟩,u.2.2.2⟩
 ·exact he.up
theorem Gj.clear (h:Gj S j):Gj (sClear S v d) j:=h.map (Nat.le_refl _) fun e he=>by
 split
 ·exact ⟨he.1,ft0 (by omega),⟨Int.le_refl _,by show (0:Int)<=_; omega⟩,⟨Int.le_refl _,by show (0:Int)<=_; omega⟩⟩
 ·exact he
theorem w_ft (hx:0<=x/\x < 2 ^ (64 * 4)) (hy:0<=y/\y < 2 ^ (64 * 4)) (ht:0<=t/\t < 18446744073709551616):0<=qv (x * t) y/\Ft (qv (x * t) y) 640:=by
 have:=w_bd (n:=1) (xs:=fun _=>x) (fun _ _=>hx) hy ht 0 (by decide)
 exact this
theorem Gj.hold (h:Gj S j) (hx:0<=x/\x < 2 ^ (64 * 4)) (hy:0<=y/\y < 2 ^ (64 * 4)) (ht:0<=t/\t < 18446744073709551616):Gj (sHold S v d x y t) (j + 1):=by
 have q:=w_ft hx hy ht
 unfold sHold
 split
 ·exact h.map (by omega) fun e he=>by
   split
   ·have u:=he.up
    exact ⟨⟨q.1,ft_up q.2 (by omega)⟩,u.2.1,u.2.2.1,u.2.2.2⟩
   ·exact he.up
 ·refine ⟨by rw [List.length_append]; have:=h.len; simp; omega,fun e he => ?_⟩
  rcases List.mem_append.1 he with k | k
  ·exact (h.all e k).up
  ·rw [List.mem_singleton] at k
   subst k
   exact ⟨⟨q.1,ft_up q.2 (by omega)⟩,ft0 (by omega),⟨Int.le_refl _,by show (0:Int)<=_; omega⟩,⟨Int.le_refl _,by show (0:Int)<=_; omega⟩⟩
theorem Gj.drop (h:Gj S j):Gj (sDrop S v d) (j + 1):=⟨by have:=h.len; have:=List.length_filter_le (fun e:(Int × Int) × Stk => !(e.1.1 == v && e.1.2 == d)) S; unfold sDrop; omega,fun e he=>(h.all e (List.mem_filter.1 he).1).up⟩
theorem Gj.fs (h:Gj S j) (hj:j<=41):Fs S 170000:=fun e he=>by
 have q:=h.all e he
 have a:=q.2.2.1
 have b:=q.2.2.2
 exact ⟨ft_up q.1.2 (by omega),ft_up q.2.1.2 (by omega),a.1,by omega,b.1,by omega⟩
theorem Gj.hp (h:Gj S j) (hj:j<=41):∀ e∈S,0<=e.2.2.2.1/\e.2.2.2.1 < 1000000/\0<=e.2.2.2.2/\e.2.2.2.2 < 1000000:=fun e he=>by
 have q:=h.all e he
 exact ⟨q.2.2.1.1,by have:=q.2.2.1.2; omega,q.2.2.2.1,by have:=q.2.2.2.2; omega⟩
theorem get_mem {s:Stk} (h:sGet S v d=some s):∃ e∈S,e.2=s:=by
 unfold sGet at h
 cases hf:S.find? (fun e=>e.1.1 == v && e.1.2 == d) with
 | none=>rw [hf] at h; simp at h
 | some e=>rw [hf] at h; exact ⟨e,List.mem_of_find?_eq_some hf,by simpa using h⟩
theorem Gj.worth (h:Gj S j) (hj:j<=41):Ft (sWorth S v d) (64 * 200000):=by
 unfold sWorth
 split
 ·rename_i s hs
  obtain ⟨e,he,rfl⟩:=get_mem hs
  exact ft_up (h.all e he).1.2 (by omega)
 ·exact (ft0 (by omega)).2
theorem Gj.owed (h:Gj S j) (hj:j<=41):Ft (sOwed S v d) (64 * 200000):=by
 unfold sOwed
 split
 ·rename_i s hs
  obtain ⟨e,he,rfl⟩:=get_mem hs
  exact ft_up (h.all e he).2.1.2 (by omega)
 ·exact (ft0 (by omega)).2
theorem Gj.told (h:Gj S j) (hj:j<=41):Ft (sTold S v d).1 (64 * 200000):=by
 unfold sTold
 split
 ·rename_i s hs
  obtain ⟨e,he,rfl⟩:=get_mem hs
  exact ft_up (h.all e he).2.1.2 (by omega)
 ·exact (ft0 (by omega)).2
theorem sum_ft {S:St} {v:Int} {L:Nat} (h:∀ e∈S,(0<=e.2.1/\Ft e.2.1 L)/\(0<=e.2.2.1/\Ft e.2.2.1 L)):(0<=sStakes S v/\Ft (sStakes S v) (S.length * (L + 1) + 1))/\(0<=sOwes S v/\Ft (sOwes S v) (S.length * (L + 1) + 1)):=by
 induction S with
 | nil=>exact ⟨ft0 (by omega),ft0 (by omega)⟩
 | cons e S ih =>
  have k:=ih fun e he=>h e (List.mem_cons_of_mem _ he)
  have q:=h e List.mem_cons_self
  simp only [sStakes,sOwes,List.length_cons]
  have e1:(S.length + 1) * (L + 1) + 1=S.length * (L + 1) + 1 + L + 1:=by rw [Nat.succ_mul]; omega
  rw [e1]
  split
  ·exact ⟨⟨Rat.add_nonneg q.1.1 k.1.1,ft_up (ft_add q.1.2 k.1.2 q.1.1 k.1.1) (by omega)⟩,⟨Rat.add_nonneg q.2.1 k.2.1,ft_up (ft_add q.2.2 k.2.2 q.2.1 k.2.1) (by omega)⟩⟩
  ·exact ⟨⟨k.1.1,ft_up k.1.2 (by omega)⟩,⟨k.2.1,ft_up k.2.2 (by omega)⟩⟩
theorem Gj.sums (h:Gj S j) (hj:j<=41):Ft (sStakes S v) (64 * 200000)/\Ft (sOwes S v) (64 * 200000):=by
 have q:=sum_ft (S:=S) (v:=v) (L:=170000) fun e he=>⟨⟨(h.all e he).1.1,ft_up (h.all e he).1.2 (by omega)⟩,⟨(h.all e he).2.1.1,ft_up (h.all e he).2.1.2 (by omega)⟩⟩
 have e:S.length * (170000 + 1)<=41 * 170001:=Nat.mul_le_mul_right _ (by have:=h.len; omega)
 have e2:S.length * (170000 + 1) + 1<=64 * 200000:=Nat.le_trans (Nat.succ_le_succ e) (by decide)
 exact ⟨ft_up q.1.2 e2,ft_up q.2.2 e2⟩
theorem Gj.bd (h:Gj S j) (hj:j<=41):S.length<=100:=by have:=h.len; omega
end
structure E7 where
 a:Int
 v:Int
 u:Int
 n:Int
 m:Int
 dv:Option Addr × Nat × Nat
 ev:Option Addr × Nat × Nat
 x:Int
 y:Int
structure At7 (w:World) (b o:Nat) (a v u n m:Int) (d1:Option Addr) (d2 d3:Nat) (e1:Option Addr) (e2 e3:Nat) (x y:Int):Prop where
 cell:w.cell? ⟨b,o,none⟩=some (.int .i64 a)/\w.cell? ⟨b,o + 1,none⟩=some (.int .u64 v)/\w.cell? ⟨b,o + 2,none⟩=some (.int .u64 u)/\w.cell? ⟨b,o + 3,none⟩=some (.int .u64 n)/\w.cell? ⟨b,o + 4,none⟩=some (.int .u64 m)/\w.cell? ⟨b,o + 5,none⟩=some (.slice d1 d2 d3)/\w.cell? ⟨b,o + 6,none⟩=some (.slice e1 e2 e3)
 rv:0<=v/\v < 18446744073709551616
 ru:0<=u/\u < 18446744073709551616
 rn:0<=n/\n < 18446744073709551616
 rm:0<=m/\m < 18446744073709551616
 dx:NatA w d1 d2 d3 x
 ey:NatA w e1 e2 e3 y
 few:d2<=9223372036854775807/\e2<=9223372036854775807
abbrev A7 (w:World) (b o:Nat) (e:E7):Prop:=At7 w b o e.a e.v e.u e.n e.m e.dv.1 e.dv.2.1 e.dv.2.2 e.ev.1 e.ev.2.1 e.ev.2.2 e.x e.y
structure StpA (w:World) (ao:Option Addr) (n b o:Nat) (s:Nat->E7):Prop where
 ptr:0 < n->ao=some ⟨b,o,none⟩
 at7:∀ i,i < n->A7 w b (o + i * 7) (s i)
 few:n<=9223372036854775807
def StpsIn (w:World) (ao:Option Addr) (n:Nat):Prop:=∃ b o s,StpA w ao n b o s
theorem ld_st7 {w:World} {g o:Nat} {v0 v1 v2 v3 v4 v5 v6:Value} (c0:w.cell? ⟨g,o,none⟩=some v0) (c1:w.cell? ⟨g,o + 1,none⟩=some v1) (c2:w.cell? ⟨g,o + 2,none⟩=some v2) (c3:w.cell? ⟨g,o + 3,none⟩=some v3) (c4:w.cell? ⟨g,o + 4,none⟩=some v4) (c5:w.cell? ⟨g,o + 5,none⟩=some v5) (c6:w.cell? ⟨g,o + 6,none⟩=some v6):(loadVar 37 ⟨g,o,none⟩).run Tryz.prog w=.ok (.agg #[v0,v1,v2,v3,v4,v5,v6]) w:=by go_simp
section
variable {ρ:Operand->Value} {p:Oper} {w W:World} {b o:Nat} {a v u n m:Int} {d1:Option Addr} {d2 d3:Nat} {e1:Option Addr} {e2 e3:Nat} {x y:Int}
theorem At7.load (A:At7 w b o a v u n m d1 d2 d3 e1 e2 e3 x y) (B:Below w.heap.size w W) (ho:∃ q,p.op=.load 37 q/\ρ q=.pointer (some ⟨b,o,none⟩):=by exact ⟨_,rfl,by kernel_rfl⟩):(execOp ρ p).run Tryz.prog W=.ok (.value (.agg #[.int .i64 a,.int .u64 v,.int .u64 u,.int .u64 n,.int .u64 m,.slice d1 d2 d3,.slice e1 e2 e3])) W:=by
 obtain ⟨q,h,hp⟩:=ho
 obtain ⟨c0,c1,c2,c3,c4,c5,c6⟩:=A.cell
 have:=ld_st7 (cellB B c0) (cellB B c1) (cellB B c2) (cellB B c3) (cellB B c4) (cellB B c5) (cellB B c6)
 simp only [execOp,h,hp]
 simp [Instr.loadAt,Instr.sureAddr,Result.andThen,this]
theorem At7.ldd (A:At7 w b o a v u n m d1 d2 d3 e1 e2 e3 x y) (B:Below w.heap.size w W) (ho:∃ q,p.op=.load 33 q/\ρ q=.pointer (some ⟨b,o + 5,none⟩):=by exact ⟨_,rfl,by kernel_rfl⟩):(execOp ρ p).run Tryz.prog W=.ok (.value (.slice d1 d2 d3)) W:=by
 obtain ⟨q,h,hp⟩:=ho
 have:=ld_nat (cellB B A.cell.2.2.2.2.2.1)
 simp only [execOp,h,hp]
 simp [Instr.loadAt,Instr.sureAddr,Result.andThen,this]
theorem At7.lde (A:At7 w b o a v u n m d1 d2 d3 e1 e2 e3 x y) (B:Below w.heap.size w W) (ho:∃ q,p.op=.load 33 q/\ρ q=.pointer (some ⟨b,o + 6,none⟩):=by exact ⟨_,rfl,by kernel_rfl⟩):(execOp ρ p).run Tryz.prog W=.ok (.value (.slice e1 e2 e3)) W:=by
 obtain ⟨q,h,hp⟩:=ho
 have:=ld_nat (cellB B A.cell.2.2.2.2.2.2)
 simp only [execOp,h,hp]
 simp [Instr.loadAt,Instr.sureAddr,Result.andThen,this]
end
theorem StpA.keep {w W:World} {ao:Option Addr} {n b o:Nat} {s:Nat->E7} (S:StpA w ao n b o s) (B:Below w.heap.size w W):StpA W ao n b o s:=⟨S.ptr,fun i hi=>by
 have A:=S.at7 i hi
 obtain ⟨c0,c1,c2,c3,c4,c5,c6⟩:=A.cell
 exact ⟨⟨cellB B c0,cellB B c1,cellB B c2,cellB B c3,cellB B c4,cellB B c5,cellB B c6⟩,A.rv,A.ru,A.rn,A.rm,A.dx.keep B,A.ey.keep B,A.few⟩,S.few⟩
theorem StpA.at {w:World} {ao:Option Addr} {n b o i:Nat} {s:Nat->E7} (S:StpA w ao n b o s) (hi:i < n):∃ a v u k m d1 d2 d3 e1 e2 e3 x y,At7 w b (o + i * 7) a v u k m d1 d2 d3 e1 e2 e3 x y/\d2=(s i).dv.2.1/\e2=(s i).ev.2.1:=⟨_,_,_,_,_,_,_,_,_,_,_,_,_,S.at7 i hi,rfl,rfl⟩
theorem row_nat {w:World} {a:Option Addr} {len cap:Nat} {z:List Int} (h:IsRow w a len cap z):∃ x,NatA w a len cap x/\len<=9223372036854775807:=by
 obtain ⟨g,o,l,hl,hc,hm,W,h0⟩:=h.open
 exact ⟨val l,⟨g,o,l,hl,hc,W,h0,rfl⟩,hm⟩
theorem u64r {x:Int} (h:(Lit.int .u64 x).wf=true):0<=x/\x < 18446744073709551616:=by
 have:=bounds_u64 h
 omega
end Lg
end
end Go.Proofs.YtlbndpkdkdgggaaGreatDoor
