/- Several texts, joined: EncP, EncQ, EncR, EncS, RcO, RcM, RcN, EncM, RcT. -/
import Derived.Test.YtfpclhjmfpfhiaaGreatJah
import Derived.Test.YtfpclhjmfpfhiaaGreatJaa
namespace Go.Proofs.YtfpclhjmfpfhiaaGreat
open Go.RowKit Lim
structure RfA (w:World) (g b:Nat) (err:Int) (l:List Int):Prop where
 ex:∃ ao n c,Box w g [.slice ao n c,.int .i64 err] 113/\ByA w b ao n c l
theorem RfA.keep {w w':World} {g b:Nat} {err:Int} {l:List Int} (h:RfA w g b err l) (hb:Below w.heap.size w w'):RfA w' g b err l:=by
 obtain ⟨ao,n,c,h1,h2⟩:=h.ex
 exact ⟨ao,n,c,h1.keep hb,h2.keep hb⟩
theorem no_u8f (err:Int) (ao:Option Addr) (n c:Nat):∀ v∈[Value.slice ao n c,Value.int .i64 err],∀ x,v≠.int .u8 x:=fun v hv x e=>by
 rcases List.mem_cons.1 hv with h | h
 ·subst h; cases e
 ·rw [List.mem_singleton] at h; subst h; cases e
theorem RfA.lt {w:World} {g b:Nat} {err:Int} {l:List Int} (h:RfA w g b err l):g < w.heap.size:=by
 obtain ⟨_,_,_,X,_⟩:=h.ex
 exact X.lt
theorem RfA.oct {w:World} {g b:Nat} {err:Int} {l:List Int} (h:RfA w g b err l):Octets l:=by
 obtain ⟨_,_,_,_,A⟩:=h.ex
 obtain ⟨o,_,_,_,h4,_⟩:=A.ex
 exact h4
theorem RfA.len {w:World} {g b:Nat} {err:Int} {l:List Int} (h:RfA w g b err l):l.length<=9223372036854775807:=by
 obtain ⟨_,_,_,_,A⟩:=h.ex
 obtain ⟨o,_,_,⟨_,_⟩,_,_⟩:=A.ex
 omega
theorem but_set (w:World) (g k:Nat) (v:Value):But g w (w.setCell ⟨g,k,none⟩ v):=⟨rfl,rfl,rfl,by rw [size_set]; exact Nat.le_refl _,fun _ _ h2=>Below.heap_setCell _ _ _ _ h2⟩
set_option maxRecDepth 100000 in
theorem rfTake {w:World} {g b m:Nat} {l:List Int} (h:RfA w g b 0 l) (hm:m<=l.length) :
  Calls Tryz.prog 103 #[.pointer (some ⟨g,0,none⟩),.int .i64 m] w fun e w'=>∃ ao c,e=.returned (.slice ao m c)/\ByA w' b ao m c (l.take m)/\RfA w' g b 0 (l.drop m)/\But g w w':=by
 obtain ⟨ao,n,c,X,A⟩:=h.ex
 obtain ⟨o,h1,h2,⟨h3,-⟩,-,-⟩:=A.ex
 have hmn:m<=n:=by omega
 have H:But g w (w.setCell ⟨g,0,none⟩ (.slice (restAt ao c m) (n - m) (c - m))):=but_set _ _ _ _
 have HR:Hid (∀ w',w'=w.setCell ⟨g,0,none⟩ (.slice (restAt ao c m) (n - m) (c - m))->ByA w' b ao m c (l.take m)/\RfA w' g b 0 (l.drop m)/\But g w w'):=fun w' e=>by
  subst e
  exact ⟨(A.front2 hmn).but X (no_u8f _ _ _ _) H,⟨_,_,_,box_put0 X _,(A.rest hmn).but X (no_u8f _ _ _ _) H⟩,H⟩
 obtain ⟨c1,c2,c3,c4⟩:=X.two
 have hm0:(m:Int)<=n:=by omega
 have hm1:(m:Int)<=c:=by omega
 have hq:((n:Int) < m)=False:=eq_false (by omega)
 have hn9:(c:Int)<=9223372036854775807:=by omega
 clear X A h H
 go_enter Tryz.func103,Tryz.ntmps103
 go_wp2
 ·subst h
  go_ret
  exact ⟨ao,c,rfl,HR.out _ (by unfold restAt; rw [if_pos rfl,Nat.sub_self])⟩
 ·go_ret
  exact ⟨ao,c,rfl,HR.out _ (by unfold restAt; rw [if_neg (by assumption)])⟩
set_option maxRecDepth 100000 in
theorem rfTakeS {w:World} {g b m:Nat} {l:List Int} (h:RfA w g b 0 l) (hm:l.length < m) :
  Calls Tryz.prog 103 #[.pointer (some ⟨g,0,none⟩),.int .i64 m] w fun e w'=>e=.returned (.slice none 0 0)/\RfA w' g b 40 l/\But g w w':=by
 obtain ⟨ao,n,c,X,A⟩:=h.ex
 obtain ⟨o,h1,h2,⟨h3,-⟩,-,-⟩:=A.ex
 have H:But g w (w.setCell ⟨g,1,none⟩ (.int .i64 40)):=but_set _ _ _ _
 have HR:Hid (RfA (w.setCell ⟨g,1,none⟩ (.int .i64 40)) g b 40 l/\But g w (w.setCell ⟨g,1,none⟩ (.int .i64 40))):=⟨⟨_,_,_,box_put1 X _,A.but X (no_u8f _ _ _ _) H⟩,H⟩
 obtain ⟨c1,c2,c3,c4⟩:=X.two
 have d2:=(box_put1 X (.int .i64 40)).two.2.1
 have hq:((n:Int) < m)=True:=eq_true (by omega)
 clear X A h H hm
 go_enter Tryz.func103,Tryz.ntmps103
 go_wp2
 go_ret
 exact ⟨rfl,HR.out⟩
set_option maxRecDepth 100000 in
theorem rfTakeE {w:World} {g b:Nat} {m err:Int} {l:List Int} (h:RfA w g b err l) (he:err≠0) :
  Calls Tryz.prog 103 #[.pointer (some ⟨g,0,none⟩),.int .i64 m] w fun e w'=>e=.returned (.slice none 0 0)/\w'=w:=by
 obtain ⟨ao,n,c,X,A⟩:=h.ex
 obtain ⟨c1,c2,c3,c4⟩:=X.two
 have hb1:(err == 0)=false:=beq_eq_false_iff_ne.2 he
 have hb2:(err != 0)=true:=bne_iff_ne.2 he
 clear X A h he
 go_enter Tryz.func103,Tryz.ntmps103
 go_wp2
 go_ret
 exact ⟨rfl,rfl⟩
set_option maxHeartbeats 2000000 in
set_option maxRecDepth 100000 in
theorem rfU {w:World} {g b m:Nat} {err:Int} {l:List Int} (h:RfA w g b err l) (h8:m<=8) :
  Calls Tryz.prog 62 #[.pointer (some ⟨g,0,none⟩),.int .i64 m] w fun e w'=>e=.returned (.int .u64 (rdV 0 (pFix m l) err))/\RfA w' g b (rdE (pFix m l) err) (rdL (pFix m l) err l)/\But g w w':=by
 by_cases he:err=0
 ·subst he
  by_cases hm:m<=l.length
  ·have hp:pFix m l=.inr (bval (l.take m),m):=by unfold pFix; rw [if_pos hm]
   rw [hp]
   show Calls Tryz.prog _ _ w fun e w'=>e=.returned (.int .u64 (bval (l.take m)))/\RfA w' g b 0 (l.drop m)/\But g w w'
   have HO:Hid (Octets (l.take m)):=fun x hx=>h.oct x (List.mem_of_mem_take hx)
   have hlm:(l.take m).length=m:=by rw [List.length_take]; omega
   have t:=rfTake h hm
   clear hp h
   generalize l.take m=d at *
   generalize l.drop m=r at *
   have h8':(m:Int)<=8:=by omega
   go_enter Tryz.func62,Tryz.ntmps62
   go_wp2_with fail
   refine t.mono ?_
   rintro e w1 ⟨ao,c,rfl,A1,R1,b1⟩
   have HR1:=(show Hid _ from R1)
   have HB1:=(show Hid _ from b1)
   obtain ⟨o,-,-,-,-,hA5⟩:=A1.ex
   have HA5:=(show Hid _ from hA5)
   clear t A1 R1 b1 hA5
   go_wp2_with fail
   go_loop [6,7] (fun tx ti=>∃ k:Nat,k<=m/\ti=.int .i64 k/\tx=.int .u64 (bval (d.take k))) (fun _ ti=>m - (intOf ti).toNat)
   case atStart=>exact ⟨0,Nat.zero_le _,rfl,rfl⟩
   case round =>
    obtain ⟨k,hk,rfl,rfl⟩:=hrel
    by_cases hlt:k < m
    ·have hkl:k < d.length:=by omega
     have hcell:=HA5.out.cell k hkl
     obtain rfl:ao=some ⟨b,o,none⟩:=by
      rcases HA5.out.loc with e | e
      ·rw [e] at hkl; simp at hkl
      ·exact e
     have hk0:(k:Int) < m:=by omega
     have hd:=HO.out.nth k
     have HB:=bval_bound (l:=d.take k) (fun x hx=>HO.out x (List.mem_of_mem_take hx))
     have hp:(256:Int) ^ (d.take k).length<=256 ^ 7:=pow256_mono (by rw [List.length_take]; omega)
     have hx1:bval (d.take k) < 72057594037927936:=by
      have e7:(256:Int) ^ 7=72057594037927936:=by decide
      omega
     have hx0:=HB.1
     have hor:=or8 (bval (d.take k)) (nth d k) hx0 hx1 hd.1 hd.2
     have HN:Hid (bval (d.take (k + 1))=bval (d.take k) * 256 + nth d k):=by show _=_; rw [take_succ_nth hkl,bval_snoc2]
     clear HB hp
     generalize bval (d.take k)=V at *
     generalize nth d k=D at *
     go_wp2
     go_round
     case rel=>exact ⟨k + 1,by omega,by go_num,by rw [HN.out]⟩
     case measure=>simp [intOf]; omega
    ·obtain rfl:k=m:=by omega
     have hdk:d.take k=d:=List.take_of_length_le (by omega)
     rw [hdk]
     go_wp2
     go_ret
     exact ⟨rfl,HR1.out,HB1.out⟩
  ·have hp:pFix m l=.inl 40:=by unfold pFix; rw [if_neg hm]
   rw [hp]
   show Calls Tryz.prog _ _ w fun e w'=>e=.returned (.int .u64 0)/\RfA w' g b 40 l/\But g w w'
   have t:=rfTakeS (m:=m) h (by omega)
   clear hp h hm
   go_enter Tryz.func62,Tryz.ntmps62
   go_wp2_with fail
   refine t.mono ?_
   rintro e w1 ⟨rfl,R1,b1⟩
   have HR1:=(show Hid _ from R1)
   have HB1:=(show Hid _ from b1)
   clear t R1 b1
   go_wp2_with fail
   go_loop [6,7] (fun tx ti=>tx=.int .u64 0/\ti=.int .i64 0) (fun _ _=>0)
   case atStart=>exact ⟨rfl,rfl⟩
   case round =>
    obtain ⟨rfl,rfl⟩:=hrel
    go_wp2
    go_ret
    exact ⟨rfl,HR1.out,HB1.out⟩
 ·rw [rdV_bad he,rdE_bad he,rdL_bad he]
  have t:=rfTakeE (m:=(m:Int)) h he
  have HH:=(show Hid _ from h)
  clear h he
  go_enter Tryz.func62,Tryz.ntmps62
  go_wp2_with fail
  refine t.mono ?_
  rintro e w1 ⟨rfl,hw1⟩
  subst hw1
  clear t
  go_wp2_with fail
  go_loop [6,7] (fun tx ti=>tx=.int .u64 0/\ti=.int .i64 0) (fun _ _=>0)
  case atStart=>exact ⟨rfl,rfl⟩
  case round =>
   obtain ⟨rfl,rfl⟩:=hrel
   go_wp2
   go_ret
   exact ⟨rfl,HH.out,But.refl _ _⟩
set_option maxRecDepth 100000 in
theorem rfEnd {w:World} {g b:Nat} {err:Int} {l:List Int} (h:RfA w g b err l) :
  Calls Tryz.prog 104 #[.pointer (some ⟨g,0,none⟩)] w fun e w'=>e=.returned (.int .i64 (endE err l))/\RfA w' g b (endE err l) l/\But g w w':=by
 obtain ⟨ao,n,c,X,A⟩:=h.ex
 obtain ⟨o,h1,h2,⟨h3,-⟩,-,-⟩:=A.ex
 have H:But g w (w.setCell ⟨g,1,none⟩ (.int .i64 43)):=but_set _ _ _ _
 have HR:Hid (RfA (w.setCell ⟨g,1,none⟩ (.int .i64 43)) g b 43 l/\But g w (w.setCell ⟨g,1,none⟩ (.int .i64 43))):=⟨⟨_,_,_,box_put1 X _,A.but X (no_u8f _ _ _ _) H⟩,H⟩
 obtain ⟨c1,c2,c3,c4⟩:=X.two
 have d2:=(box_put1 X (.int .i64 43)).two.2.1
 have HH:=(show Hid _ from h)
 by_cases he:err=0
 ·subst he
  by_cases hl:l.length=0
  ·have e:endE 0 l=0:=by unfold endE; rw [if_pos rfl,if_pos hl]
   rw [e]
   have hn:n=0:=by omega
   subst hn
   clear X A h H HR e hl d2
   go_enter Tryz.func104,Tryz.ntmps104
   go_wp2
   go_ret
   exact ⟨rfl,HH.out,But.refl _ _⟩
  ·have e:endE 0 l=43:=by unfold endE; rw [if_pos rfl,if_neg hl]
   rw [e]
   have hn:0 < n:=by omega
   clear X A h H e hl HH
   go_enter Tryz.func104,Tryz.ntmps104
   go_wp2
   go_ret
   exact ⟨rfl,HR.out⟩
 ·have e:endE err l=err:=by unfold endE; rw [if_neg he]
  rw [e]
  have hb1:(err == 0)=false:=beq_eq_false_iff_ne.2 he
  clear X A h H HR e he d2
  go_enter Tryz.func104,Tryz.ntmps104
  go_wp2
  go_ret
  exact ⟨rfl,HH.out,But.refl _ _⟩
end Go.Proofs.YtfpclhjmfpfhiaaGreat
namespace Go.Proofs.YtfpclhjmfpfhiaaGreat
open Go.RowKit Lim
end Go.Proofs.YtfpclhjmfpfhiaaGreat
namespace Go.Proofs.YtfpclhjmfpfhiaaGreat
open Go.RowKit Lim
theorem RfA.err {w:World} {g b n c:Nat} {ao:Option Addr} {l:List Int} (e:Int) (X:Box w g [.slice ao n c,.int .i64 0] 113) (A:ByA w b ao n c l) :
  RfA (w.drew.setCell ⟨g,1,none⟩ (.int .i64 e)) g b e l/\But g w (w.drew.setCell ⟨g,1,none⟩ (.int .i64 e)):=by
 have hd:Below w.heap.size w w.drew:=(Below.refl _ _).drew
 have H:But g w.drew (w.drew.setCell ⟨g,1,none⟩ (.int .i64 e)):=but_set _ _ _ _
 exact ⟨⟨_,_,_,box_put1 X.drew _,(A.keep hd).but X.drew (no_u8f _ _ _ _) H⟩,(But.of hd).trans H⟩
end Go.Proofs.YtfpclhjmfpfhiaaGreat
namespace Go.Proofs.YtfpclhjmfpfhiaaGreat
open Go.RowKit Lim
theorem RfA.put {w:World} {g b G:Nat} {err:Int} {l:List Int} (h:RfA w g b err l) {v u:Value} {t:TypeId} (s:Slot w G v t) (hG:G≠g) (hv:∀ x,v≠.int .u8 x):RfA (w.setCell ⟨G,0,none⟩ u) g b err l:=by
 obtain ⟨ao,n,c,X,A⟩:=h.ex
 refine ⟨ao,n,c,⟨?_⟩,A.box s.bx (fun v' hv'=>by rw [List.mem_singleton] at hv'; subst hv'; exact hv) fun k hk=>Below.heap_setCell _ _ _ k hk⟩
 rw [Below.heap_setCell _ _ _ g hG.symm]
 exact X.blk
end Go.Proofs.YtfpclhjmfpfhiaaGreat
namespace Go.Proofs.YtfpclhjmfpfhiaaGreat
namespace Rc
open Go.RowKit Go.Lib Pg Lim
attribute [local go_sem] Oper.semAt_some
end Rc
end Go.Proofs.YtfpclhjmfpfhiaaGreat
namespace Go.Proofs.YtfpclhjmfpfhiaaGreat
namespace Rc
open Go.RowKit Go.Lib Pg Lim
attribute [local go_sem] Oper.semAt_some
theorem K8:Kd Tryz.prog 71 5 1 1 (.int .u8 0):=⟨by kernel_rfl,by kernel_rfl,rfl,by simp [Value.cells,Value.oneCell'],by decide⟩
end Rc
end Go.Proofs.YtfpclhjmfpfhiaaGreat
namespace Go.Proofs.YtfpclhjmfpfhiaaGreat
namespace Rc
open Go.RowKit Go.Lib Pg Lim
theorem endE_zero {err:Int} {l:List Int} (h:endE err l=0):err=0/\l=[]:=by
 unfold endE at h
 split at h
 ·rename_i he
  split at h
  ·rename_i hl
   exact ⟨he,List.eq_nil_of_length_eq_zero hl⟩
  ·exact absurd h (by decide)
 ·exact absurd h (by assumption)
theorem ones (ks:List (Nat × Nat)) (l:List Int) (ho:Octets l) (hnd:(ks.map Prod.snd).Nodup) (h:endE (thr rnx ks (0,l,fun _=>0)).1 (thr rnx ks (0,l,fun _=>0)).2.1=0):thr (pnx (thr rnx ks (0,l,fun _=>0)).2.2) ks []=l:=by
 obtain ⟨h1,h2⟩:=endE_zero h
 have:=thr_one ks l (fun _=>0) ho hnd h1 []
 rw [h2,List.append_nil,List.nil_append] at this
 exact this
end Rc
end Go.Proofs.YtfpclhjmfpfhiaaGreat
namespace Go.Proofs.YtfpclhjmfpfhiaaGreat
open Go.RowKit Lim
theorem AtB.byt {B:Nat} {w w':World} {ao:Option Addr} {b o:Nat} {l:List Int} (h:AtB w ao b o l) (hb:l=[]\/b < B) (k:Byt B w w'):AtB w' ao b o l :=
 ⟨h.loc,fun i hi=>by
  have hc:=h.cell i hi
  rcases hb with e | e
  ·subst e; simp at hi
  ·rw [World.cell?_of_block (w:=w) (k.low b e (cell_lt hc))]
   exact hc⟩
end Go.Proofs.YtfpclhjmfpfhiaaGreat
namespace Go.Proofs.YtfpclhjmfpfhiaaGreat
namespace Rc
open Go.RowKit Go.Lib Pg Lim
attribute [local go_sem] Oper.semAt_some
theorem Blk.byt {B:Nat} {w w':World} {g:Nat} {cs:List Value} {t:TypeId} (h:Blk w g cs t) (b:Byt B w w') (ht:t≠5):Blk w' g cs t:=⟨by rw [b.typ g _ t _ h.blk ht]; exact h.blk⟩
set_option maxHeartbeats 2000000 in
set_option maxRecDepth 100000 in
theorem ru8 {w:World} {B lb:Nat} {v:Value} {L xs:List Int} (hM:MineB w B v L) (hB:B<=w.heap.size) (hX:Blk w lb (xs.map (Value.int .u64)) 31) (hL:L.length<=1000000) (hx:xs.length<=1000) :
  Calls Tryz.prog 82 #[v,.slice (some ⟨lb,0,none⟩) xs.length xs.length] w fun e w'=>∃ v',e=.returned v'/\MineB w' B v' (L ++ xs.flatMap (be 8))/\Byt B w w':=by
 have HM:=hid3 hM
 have HB:=hid3 hB
 have HX:=hid3 hX
 have hlen:∀ j,((xs.take j).flatMap (be 8)).length<=8 * xs.length:=fun j=>by
  rw [List.length_flatMap]
  have e:∀ l:List Int,(l.map (fun a=>(be 8 a).length)).sum=8 * l.length:=fun l=>by
   induction l with
   | nil=>rfl
   | cons a l ih=>rw [List.map_cons,List.sum_cons,ih,be_length,List.length_cons]; omega
  rw [e,List.length_take]
  omega
 have HL:=hid3 hlen
 obtain ⟨n,hn⟩:∃ n,xs.length=n:=⟨_,rfl⟩
 have HN:=hid3 hn
 rw [hn]
 rw [hn] at hx
 clear hM hB hX hlen hn
 go_enter Tryz.func82,Tryz.ntmps82
 go_wp2_with fail
 go_loopw [0,5] (fun tv ti wr=>∃ j:Nat,j<=n/\ti=.int .i64 j/\MineB wr B tv (L ++ (xs.take j).flatMap (be 8))/\Byt B w wr) (fun _ ti _=>n - (intOf ti).toNat)
 case atStart=>exact ⟨0,Nat.zero_le _,rfl,by rw [List.take_zero,List.flatMap_nil,List.append_nil]; exact HM.out,Byt.of (Below.refl _ _)⟩
 case round =>
  obtain ⟨j,hj,rfl,hMj,hBj⟩:=hrel
  by_cases hlt:j < n
  ·have hlt':(j:Int) < n:=by omega
   obtain ⟨x,hxj⟩:∃ x,xs[j]? = some x:=⟨_,List.getElem?_eq_getElem (by rw [HN.out]; exact hlt)⟩
   have c1:=(Blk.byt HX.out hBj (by decide)).cell (i:=j) (v:=.int .u64 x) (by rw [List.getElem?_map,hxj]; rfl)
   have t:=put_any (n:=8) (x:=x) hMj (Nat.le_trans HB.out hBj.size) (by decide) (by
    have:=HL.out j
    rw [List.length_append]
    rw [HN.out] at this
    omega)
   have HD:Hid ((L ++ (xs.take j).flatMap (be 8)) ++ be 8 x=L ++ (xs.take (j + 1)).flatMap (be 8)):=by
    show _=_
    rw [List.take_add_one,hxj,List.flatMap_append,List.append_assoc]
    simp
   rw [HD.out] at t
   have HBj:=hid3 hBj
   obtain ⟨M,hM⟩:∃ M,Hid (L ++ (xs.take (j + 1)).flatMap (be 8)=M):=⟨_,rfl⟩
   rw [hM.out] at t
   clear hMj hBj hxj
   go_wp2_with fail
   refine t.mono ?_
   rintro e w2 ⟨v2,rfl,hm,hb⟩
   have FF:=hid3 (show MineB w2 B v2 M/\Byt B w w2 from ⟨hm,HBj.out.trans hb⟩)
   clear hm hb t c1 HBj
   go_wp2
   refine ⟨⟨j + 1,by omega,by go_num,?_,FF.out.2⟩,by simp [intOf]; omega⟩
   rw [hM.out]; exact FF.out.1
  ·obtain rfl:j=n:=by omega
   rw [<- HN.out,List.take_length] at hMj
   have FF:=hid3 (And.intro hMj hBj)
   clear hMj hBj
   go_wp2
   go_ret
   exact ⟨_,rfl,FF.out⟩
end Rc
end Go.Proofs.YtfpclhjmfpfhiaaGreat
